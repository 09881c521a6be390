/-
  DERIVED. GIVEN WITH THE SEED: THE CARDS: each row of YtilnbmlbahflkaaDoorRows.lean that lists a variable, with what it lists TIED to the program's text (the seventh form; the later family's looks); each row that meets fmt, with fmt's text TOLD by the authors' own Lean function (tested against real Go, not proved from fmt's source: count such statements apart). THE CARD IS WHAT COUNTS. Prove the row's statement (the work); the ties are given (YtilnbmlbahflkaaDoorTie.lean); close each card by the builder's one call (the guide's Derived/Test/ToyasCard.lean, 'card_holds'). Laid BY PROGRAM, IN A SANDBOX (cutbox-door.mjs). By AI agents, Wed Nov 11 2026. No macro, syntax, notation, axiom, sorry.
-/
import Derived.Test.YtilnbmlbahflkaaDoorRows
import GoSem.ClaimSeven
namespace Go.Proofs.YtilnbmlbahflkaaDoor
namespace Rows

/-- THE TIED CARD OF 'ipsecgatelaw15.SchnorrSigns'. -/
def schnorrSignsCard : Claim7 := { stood := { row := schnorrSignsRow, standIns := [], harness := (true, "ff3f9b193c27fb4296afa17a1f33306a10cec4bc5dea6f62dc697e56572bdb74"), looks := false }, kinds := [], alts := [], laidByText := true, laidKinds := [.data], laidTests := true, laidLooks := .later }
def SchnorrSignsCardSaid : Prop := Claim7.holds Tryd.pinned (.plain (OpenSpec.ofChange schnorrSignsSpec)) schnorrSignsCard

/-- THE TIED CARD OF 'ipsecgatelaw15.SchnorrChains'. -/
def schnorrChainsCard : Claim7 := { stood := { row := schnorrChainsRow, standIns := [], harness := (true, "ff3f9b193c27fb4296afa17a1f33306a10cec4bc5dea6f62dc697e56572bdb74"), looks := false }, kinds := [], alts := [], laidByText := true, laidKinds := [.data], laidTests := true, laidLooks := .later }
def SchnorrChainsCardSaid : Prop := Claim7.holds Tryd.pinned (.plain (OpenSpec.ofChange schnorrChainsSpec)) schnorrChainsCard

/-- THE TIED CARD OF 'ipsecgatelaw15.SchnorrAccepts'. -/
def schnorrAcceptsCard : Claim7 := { stood := { row := schnorrAcceptsRow, standIns := [], harness := (true, "ff3f9b193c27fb4296afa17a1f33306a10cec4bc5dea6f62dc697e56572bdb74"), looks := false }, kinds := [], alts := [], laidByText := true, laidKinds := [.data], laidTests := true, laidLooks := .later }
def SchnorrAcceptsCardSaid : Prop := Claim7.holds Tryd.pinned (.plain (OpenSpec.ofChange schnorrAcceptsSpec)) schnorrAcceptsCard

/-- THE SECOND FORM's CARD OF 'ipsecgatelaw15.SchnorrSigns'. -/
def schnorrSignsUptoCard : Claim7 := { stood := { row := schnorrSignsUptoRow, standIns := [], harness := (true, "ff3f9b193c27fb4296afa17a1f33306a10cec4bc5dea6f62dc697e56572bdb74"), looks := false }, kinds := [], alts := [], laidByText := true, laidKinds := [.data], laidTests := true, laidLooks := .later }
def SchnorrSignsUptoCardSaid : Prop := Claim7.holds Tryd.pinned (.plain (OpenSpec.upto schnorrSignsSpec)) schnorrSignsUptoCard

/-- THE SECOND FORM's CARD OF 'ipsecgatelaw15.SchnorrChains'. -/
def schnorrChainsUptoCard : Claim7 := { stood := { row := schnorrChainsUptoRow, standIns := [], harness := (true, "ff3f9b193c27fb4296afa17a1f33306a10cec4bc5dea6f62dc697e56572bdb74"), looks := false }, kinds := [], alts := [], laidByText := true, laidKinds := [.data], laidTests := true, laidLooks := .later }
def SchnorrChainsUptoCardSaid : Prop := Claim7.holds Tryd.pinned (.plain (OpenSpec.upto schnorrChainsSpec)) schnorrChainsUptoCard

/-- THE SECOND FORM's CARD OF 'ipsecgatelaw15.SchnorrAccepts'. -/
def schnorrAcceptsUptoCard : Claim7 := { stood := { row := schnorrAcceptsUptoRow, standIns := [], harness := (true, "ff3f9b193c27fb4296afa17a1f33306a10cec4bc5dea6f62dc697e56572bdb74"), looks := false }, kinds := [], alts := [], laidByText := true, laidKinds := [.data], laidTests := true, laidLooks := .later }
def SchnorrAcceptsUptoCardSaid : Prop := Claim7.holds Tryd.pinned (.plain (OpenSpec.upto schnorrAcceptsSpec)) schnorrAcceptsUptoCard
end Rows
end Go.Proofs.YtilnbmlbahflkaaDoor
