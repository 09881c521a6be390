/-
  DERIVED. GIVEN WITH THE SEED: THE CARDS: each row of YtnnbfhjbaagnkaaDoorRows.lean that lists a variable, with what it lists TIED to the program's text (the seventh form; the later family's looks); each row that meets fmt, with fmt's text TOLD by the authors' own Lean function (tested against real Go, not proved from fmt's source: count such statements apart). THE CARD IS WHAT COUNTS. Prove the row's statement (the work); the ties are given (YtnnbfhjbaagnkaaDoorTie.lean); close each card by the builder's one call (the guide's Derived/Test/ToyasCard.lean, 'card_holds'). Laid BY PROGRAM, IN A SANDBOX (cutbox-door.mjs). By AI agents, Wed Nov 11 2026. No macro, syntax, notation, axiom, sorry.
-/
import Derived.Test.YtnnbfhjbaagnkaaDoorRows
import GoSem.ClaimSeven
namespace Go.Proofs.YtnnbfhjbaagnkaaDoor
namespace Rows

/-- THE TIED CARD OF 'ipsecgatelaw09.PrfSums'. -/
def prfSumsCard : Claim7 := { stood := { row := prfSumsRow, standIns := [], harness := (true, "b19242aaa6c5d267b846cd5f4057c79b76176d06adb2be404c7fbf7dbf13757f"), looks := false }, kinds := [], alts := [], laidByText := true, laidKinds := [.data], laidTests := true, laidLooks := .later }
def PrfSumsCardSaid : Prop := Claim7.holds Tryd.pinned (.plain (OpenSpec.ofChange prfSumsSpec)) prfSumsCard

/-- THE TIED CARD OF 'ipsecgatelaw09.PrfMany'. -/
def prfManyCard : Claim7 := { stood := { row := prfManyRow, standIns := [], harness := (true, "b19242aaa6c5d267b846cd5f4057c79b76176d06adb2be404c7fbf7dbf13757f"), looks := false }, kinds := [], alts := [], laidByText := true, laidKinds := [.data], laidTests := true, laidLooks := .later }
def PrfManyCardSaid : Prop := Claim7.holds Tryd.pinned (.plain (OpenSpec.ofChange prfManySpec)) prfManyCard

/-- THE TIED CARD OF 'ipsecgatelaw09.PrfBegins'. -/
def prfBeginsCard : Claim7 := { stood := { row := prfBeginsRow, standIns := [], harness := (true, "b19242aaa6c5d267b846cd5f4057c79b76176d06adb2be404c7fbf7dbf13757f"), looks := false }, kinds := [], alts := [], laidByText := true, laidKinds := [.data], laidTests := true, laidLooks := .later }
def PrfBeginsCardSaid : Prop := Claim7.holds Tryd.pinned (.plain (OpenSpec.ofChange prfBeginsSpec)) prfBeginsCard

/-- THE TIED CARD OF 'ipsecgatelaw09.PrfNests'. -/
def prfNestsCard : Claim7 := { stood := { row := prfNestsRow, standIns := [], harness := (true, "b19242aaa6c5d267b846cd5f4057c79b76176d06adb2be404c7fbf7dbf13757f"), looks := false }, kinds := [], alts := [], laidByText := true, laidKinds := [.data], laidTests := true, laidLooks := .later }
def PrfNestsCardSaid : Prop := Claim7.holds Tryd.pinned (.plain (OpenSpec.ofChange prfNestsSpec)) prfNestsCard

/-- THE SECOND FORM's CARD OF 'ipsecgatelaw09.PrfSums'. -/
def prfSumsUptoCard : Claim7 := { stood := { row := prfSumsUptoRow, standIns := [], harness := (true, "b19242aaa6c5d267b846cd5f4057c79b76176d06adb2be404c7fbf7dbf13757f"), looks := false }, kinds := [], alts := [], laidByText := true, laidKinds := [.data], laidTests := true, laidLooks := .later }
def PrfSumsUptoCardSaid : Prop := Claim7.holds Tryd.pinned (.plain (OpenSpec.upto prfSumsSpec)) prfSumsUptoCard

/-- THE SECOND FORM's CARD OF 'ipsecgatelaw09.PrfMany'. -/
def prfManyUptoCard : Claim7 := { stood := { row := prfManyUptoRow, standIns := [], harness := (true, "b19242aaa6c5d267b846cd5f4057c79b76176d06adb2be404c7fbf7dbf13757f"), looks := false }, kinds := [], alts := [], laidByText := true, laidKinds := [.data], laidTests := true, laidLooks := .later }
def PrfManyUptoCardSaid : Prop := Claim7.holds Tryd.pinned (.plain (OpenSpec.upto prfManySpec)) prfManyUptoCard

/-- THE SECOND FORM's CARD OF 'ipsecgatelaw09.PrfBegins'. -/
def prfBeginsUptoCard : Claim7 := { stood := { row := prfBeginsUptoRow, standIns := [], harness := (true, "b19242aaa6c5d267b846cd5f4057c79b76176d06adb2be404c7fbf7dbf13757f"), looks := false }, kinds := [], alts := [], laidByText := true, laidKinds := [.data], laidTests := true, laidLooks := .later }
def PrfBeginsUptoCardSaid : Prop := Claim7.holds Tryd.pinned (.plain (OpenSpec.upto prfBeginsSpec)) prfBeginsUptoCard

/-- THE SECOND FORM's CARD OF 'ipsecgatelaw09.PrfNests'. -/
def prfNestsUptoCard : Claim7 := { stood := { row := prfNestsUptoRow, standIns := [], harness := (true, "b19242aaa6c5d267b846cd5f4057c79b76176d06adb2be404c7fbf7dbf13757f"), looks := false }, kinds := [], alts := [], laidByText := true, laidKinds := [.data], laidTests := true, laidLooks := .later }
def PrfNestsUptoCardSaid : Prop := Claim7.holds Tryd.pinned (.plain (OpenSpec.upto prfNestsSpec)) prfNestsUptoCard
end Rows
end Go.Proofs.YtnnbfhjbaagnkaaDoor
