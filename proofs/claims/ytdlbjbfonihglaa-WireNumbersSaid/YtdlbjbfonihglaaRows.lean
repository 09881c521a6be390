/-
  No cell of these rows narrows 'for every input' (looked for: loops, veiled, ifaces, maps, wideKeys, modest, calm, conditions, laid).
  DERIVED. THE GIVEN ROWS OF THIS SEAT. 7 by the template 'for every input the law returns true; each argument reads behind the call as it read before'; 0 by the template 'total and deterministic' (their statements: YtdlbjbfonihglaaTotals.lean).
  GIVEN WITH THE SEED: the statements are not yours to turn. If you find one false, say at which input.
  Laid BY PROGRAM, IN A SANDBOX (cutbox-rows.mjs): the forced cells as the released guide's own fill.sh prints them over the translation bd2c48fa363709e3… (all of the seat's roots in one cut). By AI agents, Wed Nov 11 2026. No macro, syntax, notation, axiom, sorry.
-/
import Derived.Test.YtdlbjbfonihglaaChecked
import GoSem.Claim
import GoSem.ClaimJoined
import GoSem.ClaimMapViews
import Derived.JoinedTies
import Derived.KernelRfl
namespace Go.Proofs.Ytdlbjbfonihglaa
/- THE CELL 'sum', in the pinned program and in every row, IS THE sha256 OF THE DUMP (.gsa) THAT YtdlbjbfonihglaaProg.lean LOADS. Nothing in Lean hashes anything: it is a label: what it is worth is what the hold of that sum in a sandbox is worth. -/
noncomputable def Try.pinned : Pinned := { name := "ytdlbjbfonihglaa", sum := "bd2c48fa363709e391642c94989f1af8253a4880c45a24eeadec35d5552ae741", checked := Try.checked }
namespace Rows
def none {H : Type} : Left H := { results := [], args := [] }

/-- 'ipsecgatelaw01.WireNumbers': WHATEVER THE INPUT: true; the input reads as it did. -/
def wireNumbersSpec : ChangeSpec := { name := "wireNumbers", fn := fun _ => fun
  | [d1, d2, d3, d4, d5] => { results := [.lit (.bool true)], args := [d1, d2, d3, d4, d5] }
  | _ => none }
def wireNumbersRow : OpenClaim := { program := "ytdlbjbfonihglaa", sum := "bd2c48fa363709e391642c94989f1af8253a4880c45a24eeadec35d5552ae741", func := "ipsecgate/ipsecgatelaw01.WireNumbers", spec := "wireNumbers", inPlace := ["internal/bytealg.Compare"], apart := false }
def WireNumbersSaid : Prop := wireNumbersRow.holds Try.pinned (OpenSpec.ofChange wireNumbersSpec)

/-- ITS FALSE NEIGHBOUR: 'it returns false'. Refute it at one input. -/
def wireNumbersWrong : ChangeSpec := { name := "wireNumbers", fn := fun _ => fun
  | [d1, d2, d3, d4, d5] => { results := [.lit (.bool false)], args := [d1, d2, d3, d4, d5] }
  | _ => none }
def WireNumbersWrongFalsely : Prop := wireNumbersRow.holds Try.pinned (OpenSpec.ofChange wireNumbersWrong)

/-- 'ipsecgatelaw01.WireCompares': WHATEVER THE INPUT: true; the input reads as it did. -/
def wireComparesSpec : ChangeSpec := { name := "wireCompares", fn := fun _ => fun
  | [d1, d2, d3] => { results := [.lit (.bool true)], args := [d1, d2, d3] }
  | _ => none }
def wireComparesRow : OpenClaim := { program := "ytdlbjbfonihglaa", sum := "bd2c48fa363709e391642c94989f1af8253a4880c45a24eeadec35d5552ae741", func := "ipsecgate/ipsecgatelaw01.WireCompares", spec := "wireCompares", inPlace := ["internal/bytealg.Compare"], apart := false }
def WireComparesSaid : Prop := wireComparesRow.holds Try.pinned (OpenSpec.ofChange wireComparesSpec)

/-- ITS FALSE NEIGHBOUR: 'it returns false'. Refute it at one input. -/
def wireComparesWrong : ChangeSpec := { name := "wireCompares", fn := fun _ => fun
  | [d1, d2, d3] => { results := [.lit (.bool false)], args := [d1, d2, d3] }
  | _ => none }
def WireComparesWrongFalsely : Prop := wireComparesRow.holds Try.pinned (OpenSpec.ofChange wireComparesWrong)

/-- 'ipsecgatelaw01.WireTexts': WHATEVER THE INPUT: true; the input reads as it did. -/
def wireTextsSpec : ChangeSpec := { name := "wireTexts", fn := fun _ => fun
  | [d1, d2] => { results := [.lit (.bool true)], args := [d1, d2] }
  | _ => none }
def wireTextsRow : OpenClaim := { program := "ytdlbjbfonihglaa", sum := "bd2c48fa363709e391642c94989f1af8253a4880c45a24eeadec35d5552ae741", func := "ipsecgate/ipsecgatelaw01.WireTexts", spec := "wireTexts", inPlace := ["internal/bytealg.Compare", "internal/bytealg.IndexByteString"], apart := false }
def WireTextsSaid : Prop := wireTextsRow.holds Try.pinned (OpenSpec.ofChange wireTextsSpec)

/-- ITS FALSE NEIGHBOUR: 'it returns false'. Refute it at one input. -/
def wireTextsWrong : ChangeSpec := { name := "wireTexts", fn := fun _ => fun
  | [d1, d2] => { results := [.lit (.bool false)], args := [d1, d2] }
  | _ => none }
def WireTextsWrongFalsely : Prop := wireTextsRow.holds Try.pinned (OpenSpec.ofChange wireTextsWrong)

/-- 'ipsecgatelaw01.WireReturns': WHATEVER THE INPUT: true; the input reads as it did. -/
def wireReturnsSpec : ChangeSpec := { name := "wireReturns", fn := fun _ => fun
  | [d1, d2, d3] => { results := [.lit (.bool true)], args := [d1, d2, d3] }
  | _ => none }
def wireReturnsRow : OpenClaim := { program := "ytdlbjbfonihglaa", sum := "bd2c48fa363709e391642c94989f1af8253a4880c45a24eeadec35d5552ae741", func := "ipsecgate/ipsecgatelaw01.WireReturns", spec := "wireReturns", inPlace := ["internal/bytealg.Compare"], apart := false }
def WireReturnsSaid : Prop := wireReturnsRow.holds Try.pinned (OpenSpec.ofChange wireReturnsSpec)

/-- ITS FALSE NEIGHBOUR: 'it returns false'. Refute it at one input. -/
def wireReturnsWrong : ChangeSpec := { name := "wireReturns", fn := fun _ => fun
  | [d1, d2, d3] => { results := [.lit (.bool false)], args := [d1, d2, d3] }
  | _ => none }
def WireReturnsWrongFalsely : Prop := wireReturnsRow.holds Try.pinned (OpenSpec.ofChange wireReturnsWrong)

/-- 'ipsecgatelaw01.WireSums': WHATEVER THE INPUT: true; the input reads as it did. -/
def wireSumsSpec : ChangeSpec := { name := "wireSums", fn := fun _ => fun
  | [d1, d2, d3] => { results := [.lit (.bool true)], args := [d1, d2, d3] }
  | _ => none }
def wireSumsRow : OpenClaim := { program := "ytdlbjbfonihglaa", sum := "bd2c48fa363709e391642c94989f1af8253a4880c45a24eeadec35d5552ae741", func := "ipsecgate/ipsecgatelaw01.WireSums", spec := "wireSums", inPlace := ["internal/bytealg.Compare"], apart := false }
def WireSumsSaid : Prop := wireSumsRow.holds Try.pinned (OpenSpec.ofChange wireSumsSpec)

/-- ITS FALSE NEIGHBOUR: 'it returns false'. Refute it at one input. -/
def wireSumsWrong : ChangeSpec := { name := "wireSums", fn := fun _ => fun
  | [d1, d2, d3] => { results := [.lit (.bool false)], args := [d1, d2, d3] }
  | _ => none }
def WireSumsWrongFalsely : Prop := wireSumsRow.holds Try.pinned (OpenSpec.ofChange wireSumsWrong)

/-- 'ipsecgatelaw01.WireSlices': WHATEVER THE INPUT: true; the input reads as it did. -/
def wireSlicesSpec : ChangeSpec := { name := "wireSlices", fn := fun _ => fun
  | [d1, d2] => { results := [.lit (.bool true)], args := [d1, d2] }
  | _ => none }
def wireSlicesRow : OpenClaim := { program := "ytdlbjbfonihglaa", sum := "bd2c48fa363709e391642c94989f1af8253a4880c45a24eeadec35d5552ae741", func := "ipsecgate/ipsecgatelaw01.WireSlices", spec := "wireSlices", inPlace := ["internal/bytealg.Compare"], apart := false }
def WireSlicesSaid : Prop := wireSlicesRow.holds Try.pinned (OpenSpec.ofChange wireSlicesSpec)

/-- ITS FALSE NEIGHBOUR: 'it returns false'. Refute it at one input. -/
def wireSlicesWrong : ChangeSpec := { name := "wireSlices", fn := fun _ => fun
  | [d1, d2] => { results := [.lit (.bool false)], args := [d1, d2] }
  | _ => none }
def WireSlicesWrongFalsely : Prop := wireSlicesRow.holds Try.pinned (OpenSpec.ofChange wireSlicesWrong)

/-- 'ipsecgatelaw01.WireOrders': WHATEVER THE INPUT: true; the input reads as it did. -/
def wireOrdersSpec : ChangeSpec := { name := "wireOrders", fn := fun _ => fun
  | [d1, d2, d3] => { results := [.lit (.bool true)], args := [d1, d2, d3] }
  | _ => none }
def wireOrdersRow : OpenClaim := { program := "ytdlbjbfonihglaa", sum := "bd2c48fa363709e391642c94989f1af8253a4880c45a24eeadec35d5552ae741", func := "ipsecgate/ipsecgatelaw01.WireOrders", spec := "wireOrders", inPlace := ["internal/bytealg.Compare"], apart := false }
def WireOrdersSaid : Prop := wireOrdersRow.holds Try.pinned (OpenSpec.ofChange wireOrdersSpec)

/-- ITS FALSE NEIGHBOUR: 'it returns false'. Refute it at one input. -/
def wireOrdersWrong : ChangeSpec := { name := "wireOrders", fn := fun _ => fun
  | [d1, d2, d3] => { results := [.lit (.bool false)], args := [d1, d2, d3] }
  | _ => none }
def WireOrdersWrongFalsely : Prop := wireOrdersRow.holds Try.pinned (OpenSpec.ofChange wireOrdersWrong)

/- THE SECOND FORM. 'bulk': how many values and letters a reading holds, each counted each time it is reached (what is shared counts as often as it is met; a slice's spare places count too). A statement '..UptoSaid' is the law's where the arguments, and the package variables that the reading takes, are together of bulk at most 1048576: NARROWER than '..Said'. Prove '..Said' where nothing that the law and all that it calls make is longer than what came in: it says more and counts as full. Else prove '..UptoSaid'. A law counts once. -/
mutual
def uptoBulk {H : Type} : DataW H → Nat
  | .lit (.string bytes) => bytes.length + 1
  | .lit _ => 1
  | .nil => 1
  | .ptr d => uptoBulk d + 1
  | .slice elems spare => uptoBulkAll elems + uptoBulkAll spare + 1
  | .agg parts => uptoBulkAll parts + 1
  | .iface _ d => uptoBulk d + 1
  | .map entries => uptoBulkEntries entries + 1
  | .held _ => 1
def uptoBulkAll {H : Type} : List (DataW H) → Nat
  | [] => 0
  | d :: r => uptoBulk d + uptoBulkAll r
def uptoBulkEntries {H : Type} : List (Lit × DataW H) → Nat
  | [] => 0
  | x :: r => uptoBulkEntry x + uptoBulkEntries r
def uptoBulkEntry {H : Type} : Lit × DataW H → Nat
  | (.string bytes, d) => bytes.length + uptoBulk d + 1
  | (_, d) => uptoBulk d + 1
 end
def uptoSmall : (H : Type) → List (DataW H) → Bool := fun _ ds => decide (uptoBulkAll ds ≤ 1048576)
def OpenSpec.upto (s : _root_.Go.ChangeSpec) : _root_.Go.OpenSpec := { _root_.Go.OpenSpec.ofChange s with cond := some uptoSmall }

/-- 'ipsecgatelaw01.WireNumbers', WHERE WHAT IT READS IS OF BULK AT MOST 1048576: true; the input reads as it did. -/
def wireNumbersUptoRow : OpenClaim := { program := "ytdlbjbfonihglaa", sum := "bd2c48fa363709e391642c94989f1af8253a4880c45a24eeadec35d5552ae741", func := "ipsecgate/ipsecgatelaw01.WireNumbers", spec := "wireNumbers", inPlace := ["internal/bytealg.Compare"], apart := false, narrowed := true }
def WireNumbersUptoSaid : Prop := wireNumbersUptoRow.holds Try.pinned (OpenSpec.upto wireNumbersSpec)

/-- 'ipsecgatelaw01.WireCompares', WHERE WHAT IT READS IS OF BULK AT MOST 1048576: true; the input reads as it did. -/
def wireComparesUptoRow : OpenClaim := { program := "ytdlbjbfonihglaa", sum := "bd2c48fa363709e391642c94989f1af8253a4880c45a24eeadec35d5552ae741", func := "ipsecgate/ipsecgatelaw01.WireCompares", spec := "wireCompares", inPlace := ["internal/bytealg.Compare"], apart := false, narrowed := true }
def WireComparesUptoSaid : Prop := wireComparesUptoRow.holds Try.pinned (OpenSpec.upto wireComparesSpec)

/-- 'ipsecgatelaw01.WireTexts', WHERE WHAT IT READS IS OF BULK AT MOST 1048576: true; the input reads as it did. -/
def wireTextsUptoRow : OpenClaim := { program := "ytdlbjbfonihglaa", sum := "bd2c48fa363709e391642c94989f1af8253a4880c45a24eeadec35d5552ae741", func := "ipsecgate/ipsecgatelaw01.WireTexts", spec := "wireTexts", inPlace := ["internal/bytealg.Compare", "internal/bytealg.IndexByteString"], apart := false, narrowed := true }
def WireTextsUptoSaid : Prop := wireTextsUptoRow.holds Try.pinned (OpenSpec.upto wireTextsSpec)

/-- 'ipsecgatelaw01.WireReturns', WHERE WHAT IT READS IS OF BULK AT MOST 1048576: true; the input reads as it did. -/
def wireReturnsUptoRow : OpenClaim := { program := "ytdlbjbfonihglaa", sum := "bd2c48fa363709e391642c94989f1af8253a4880c45a24eeadec35d5552ae741", func := "ipsecgate/ipsecgatelaw01.WireReturns", spec := "wireReturns", inPlace := ["internal/bytealg.Compare"], apart := false, narrowed := true }
def WireReturnsUptoSaid : Prop := wireReturnsUptoRow.holds Try.pinned (OpenSpec.upto wireReturnsSpec)

/-- 'ipsecgatelaw01.WireSums', WHERE WHAT IT READS IS OF BULK AT MOST 1048576: true; the input reads as it did. -/
def wireSumsUptoRow : OpenClaim := { program := "ytdlbjbfonihglaa", sum := "bd2c48fa363709e391642c94989f1af8253a4880c45a24eeadec35d5552ae741", func := "ipsecgate/ipsecgatelaw01.WireSums", spec := "wireSums", inPlace := ["internal/bytealg.Compare"], apart := false, narrowed := true }
def WireSumsUptoSaid : Prop := wireSumsUptoRow.holds Try.pinned (OpenSpec.upto wireSumsSpec)

/-- 'ipsecgatelaw01.WireSlices', WHERE WHAT IT READS IS OF BULK AT MOST 1048576: true; the input reads as it did. -/
def wireSlicesUptoRow : OpenClaim := { program := "ytdlbjbfonihglaa", sum := "bd2c48fa363709e391642c94989f1af8253a4880c45a24eeadec35d5552ae741", func := "ipsecgate/ipsecgatelaw01.WireSlices", spec := "wireSlices", inPlace := ["internal/bytealg.Compare"], apart := false, narrowed := true }
def WireSlicesUptoSaid : Prop := wireSlicesUptoRow.holds Try.pinned (OpenSpec.upto wireSlicesSpec)

/-- 'ipsecgatelaw01.WireOrders', WHERE WHAT IT READS IS OF BULK AT MOST 1048576: true; the input reads as it did. -/
def wireOrdersUptoRow : OpenClaim := { program := "ytdlbjbfonihglaa", sum := "bd2c48fa363709e391642c94989f1af8253a4880c45a24eeadec35d5552ae741", func := "ipsecgate/ipsecgatelaw01.WireOrders", spec := "wireOrders", inPlace := ["internal/bytealg.Compare"], apart := false, narrowed := true }
def WireOrdersUptoSaid : Prop := wireOrdersUptoRow.holds Try.pinned (OpenSpec.upto wireOrdersSpec)

end Rows
end Go.Proofs.Ytdlbjbfonihglaa
