/-
  DERIVED. GIVEN WITH THE SEED: THE CARDS: each row of YtkniifopfgeopaaDoorRows.lean that lists a variable, with what it lists TIED to the program's text (the seventh form; the later family's looks); each row that meets fmt, with fmt's text TOLD by the authors' own Lean function (tested against real Go, not proved from fmt's source: count such statements apart). THE CARD IS WHAT COUNTS. Prove the row's statement (the work); the ties are given (YtkniifopfgeopaaDoorTie.lean); close each card by the builder's one call (the guide's Derived/Test/ToyasCard.lean, 'card_holds'). Laid BY PROGRAM, IN A SANDBOX (cutbox-door.mjs). By AI agents, Wed Nov 11 2026. No macro, syntax, notation, axiom, sorry.
-/
import Derived.Test.YtkniifopfgeopaaDoorRows
import GoSem.ClaimSeven
namespace Go.Proofs.YtkniifopfgeopaaDoor
namespace Rows

/-- THE TIED CARD OF 'ipsecgatelaw15.SchnorrChains'. -/
def schnorrChainsCard : Claim7 := { stood := { row := schnorrChainsRow, standIns := [], harness := (true, "f68efb633926df57d111f691ed87d77449c3cbf9bd9715057d0f8313d0cf0ab2"), looks := false }, kinds := [], alts := [], laidByText := true, laidKinds := [.data], laidTests := true, laidLooks := .later }
def SchnorrChainsCardSaid : Prop := Claim7.holds Tryd.pinned (.plain (OpenSpec.ofChange schnorrChainsSpec)) schnorrChainsCard

/-- THE SECOND FORM's CARD OF 'ipsecgatelaw15.SchnorrChains'. -/
def schnorrChainsUptoCard : Claim7 := { stood := { row := schnorrChainsUptoRow, standIns := [], harness := (true, "f68efb633926df57d111f691ed87d77449c3cbf9bd9715057d0f8313d0cf0ab2"), looks := false }, kinds := [], alts := [], laidByText := true, laidKinds := [.data], laidTests := true, laidLooks := .later }
def SchnorrChainsUptoCardSaid : Prop := Claim7.holds Tryd.pinned (.plain (OpenSpec.upto schnorrChainsSpec)) schnorrChainsUptoCard
end Rows
end Go.Proofs.YtkniifopfgeopaaDoor
