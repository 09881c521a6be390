/-
  No cell of these rows narrows 'for every input' (looked for: loops, veiled, ifaces, maps, wideKeys, modest, calm, conditions, laid).
  DERIVED. THE GIVEN ROWS OF THIS SEAT. 4 by the template 'for every input the law returns true; each argument reads behind the call as it read before'; 0 by the template 'total and deterministic' (their statements: YtjkeijkbekdjfaaTotals.lean).
  GIVEN WITH THE SEED: the statements are not yours to turn. If you find one false, say at which input.
  Laid BY PROGRAM, IN A SANDBOX (cutbox-rows.mjs): the forced cells as the released guide's own fill.sh prints them over the translation 4671399339e6cb09… (all of the seat's roots in one cut). By AI agents, Wed Nov 11 2026. No macro, syntax, notation, axiom, sorry.
-/
import Derived.Test.YtjkeijkbekdjfaaChecked
import GoSem.Claim
import GoSem.ClaimJoined
import GoSem.ClaimMapViews
import Derived.JoinedTies
import Derived.KernelRfl
namespace Go.Proofs.Ytjkeijkbekdjfaa
/- THE CELL 'sum', in the pinned program and in every row, IS THE sha256 OF THE DUMP (.gsa) THAT YtjkeijkbekdjfaaProg.lean LOADS. Nothing in Lean hashes anything: it is a label: what it is worth is what the hold of that sum in a sandbox is worth. -/
noncomputable def Try.pinned : Pinned := { name := "ytjkeijkbekdjfaa", sum := "4671399339e6cb0955c3f31998b01b6919a441d1926721c4ffbbf9018adc1c98", checked := Try.checked }
namespace Rows
def none {H : Type} : Left H := { results := [], args := [] }

/-- 'ipsecgatelaw02.HeaderReads': WHATEVER THE INPUT: true; the input reads as it did. -/
def headerReadsSpec : ChangeSpec := { name := "headerReads", fn := fun _ => fun
  | [d1, d2] => { results := [.lit (.bool true)], args := [d1, d2] }
  | _ => none }
def headerReadsRow : OpenClaim := { program := "ytjkeijkbekdjfaa", sum := "4671399339e6cb0955c3f31998b01b6919a441d1926721c4ffbbf9018adc1c98", func := "ipsecgate/ipsecgatelaw02.HeaderReads", spec := "headerReads", apart := false }
def HeaderReadsSaid : Prop := headerReadsRow.holds Try.pinned (OpenSpec.ofChange headerReadsSpec)

/-- ITS FALSE NEIGHBOUR: 'it returns false'. Refute it at one input. -/
def headerReadsWrong : ChangeSpec := { name := "headerReads", fn := fun _ => fun
  | [d1, d2] => { results := [.lit (.bool false)], args := [d1, d2] }
  | _ => none }
def HeaderReadsWrongFalsely : Prop := headerReadsRow.holds Try.pinned (OpenSpec.ofChange headerReadsWrong)

/-- 'ipsecgatelaw02.HeaderWrites': WHATEVER THE INPUT: true; the input reads as it did. -/
def headerWritesSpec : ChangeSpec := { name := "headerWrites", fn := fun _ => fun
  | [d1, d2, d3] => { results := [.lit (.bool true)], args := [d1, d2, d3] }
  | _ => none }
def headerWritesRow : OpenClaim := { program := "ytjkeijkbekdjfaa", sum := "4671399339e6cb0955c3f31998b01b6919a441d1926721c4ffbbf9018adc1c98", func := "ipsecgate/ipsecgatelaw02.HeaderWrites", spec := "headerWrites", apart := false }
def HeaderWritesSaid : Prop := headerWritesRow.holds Try.pinned (OpenSpec.ofChange headerWritesSpec)

/-- ITS FALSE NEIGHBOUR: 'it returns false'. Refute it at one input. -/
def headerWritesWrong : ChangeSpec := { name := "headerWrites", fn := fun _ => fun
  | [d1, d2, d3] => { results := [.lit (.bool false)], args := [d1, d2, d3] }
  | _ => none }
def HeaderWritesWrongFalsely : Prop := headerWritesRow.holds Try.pinned (OpenSpec.ofChange headerWritesWrong)

/-- 'ipsecgatelaw02.HeaderReturns': WHATEVER THE INPUT: true; the input reads as it did. -/
def headerReturnsSpec : ChangeSpec := { name := "headerReturns", fn := fun _ => fun
  | [d1, d2, d3, d4] => { results := [.lit (.bool true)], args := [d1, d2, d3, d4] }
  | _ => none }
def headerReturnsRow : OpenClaim := { program := "ytjkeijkbekdjfaa", sum := "4671399339e6cb0955c3f31998b01b6919a441d1926721c4ffbbf9018adc1c98", func := "ipsecgate/ipsecgatelaw02.HeaderReturns", spec := "headerReturns", apart := false }
def HeaderReturnsSaid : Prop := headerReturnsRow.holds Try.pinned (OpenSpec.ofChange headerReturnsSpec)

/-- ITS FALSE NEIGHBOUR: 'it returns false'. Refute it at one input. -/
def headerReturnsWrong : ChangeSpec := { name := "headerReturns", fn := fun _ => fun
  | [d1, d2, d3, d4] => { results := [.lit (.bool false)], args := [d1, d2, d3, d4] }
  | _ => none }
def HeaderReturnsWrongFalsely : Prop := headerReturnsRow.holds Try.pinned (OpenSpec.ofChange headerReturnsWrong)

/-- 'ipsecgatelaw02.HeaderCuts': WHATEVER THE INPUT: true; the input reads as it did. -/
def headerCutsSpec : ChangeSpec := { name := "headerCuts", fn := fun _ => fun
  | [d1, d2, d3] => { results := [.lit (.bool true)], args := [d1, d2, d3] }
  | _ => none }
def headerCutsRow : OpenClaim := { program := "ytjkeijkbekdjfaa", sum := "4671399339e6cb0955c3f31998b01b6919a441d1926721c4ffbbf9018adc1c98", func := "ipsecgate/ipsecgatelaw02.HeaderCuts", spec := "headerCuts", apart := false }
def HeaderCutsSaid : Prop := headerCutsRow.holds Try.pinned (OpenSpec.ofChange headerCutsSpec)

/-- ITS FALSE NEIGHBOUR: 'it returns false'. Refute it at one input. -/
def headerCutsWrong : ChangeSpec := { name := "headerCuts", fn := fun _ => fun
  | [d1, d2, d3] => { results := [.lit (.bool false)], args := [d1, d2, d3] }
  | _ => none }
def HeaderCutsWrongFalsely : Prop := headerCutsRow.holds Try.pinned (OpenSpec.ofChange headerCutsWrong)

/- THE SECOND FORM. 'bulk': how many values and letters a reading holds, each counted each time it is reached (what is shared counts as often as it is met; a slice's spare places count too). A statement '..UptoSaid' is the law's where the arguments, and the package variables that the reading takes, are together of bulk at most 1048576: NARROWER than '..Said'. Prove '..Said' where nothing that the law and all that it calls make is longer than what came in: it says more and counts as full. Else prove '..UptoSaid'. A law counts once. -/
mutual
def uptoBulk {H : Type} : DataW H → Nat
  | .lit (.string bytes) => bytes.length + 1
  | .lit _ => 1
  | .nil => 1
  | .ptr d => uptoBulk d + 1
  | .slice elems spare => uptoBulkAll elems + uptoBulkAll spare + 1
  | .agg parts => uptoBulkAll parts + 1
  | .iface _ d => uptoBulk d + 1
  | .map entries => uptoBulkEntries entries + 1
  | .held _ => 1
def uptoBulkAll {H : Type} : List (DataW H) → Nat
  | [] => 0
  | d :: r => uptoBulk d + uptoBulkAll r
def uptoBulkEntries {H : Type} : List (Lit × DataW H) → Nat
  | [] => 0
  | x :: r => uptoBulkEntry x + uptoBulkEntries r
def uptoBulkEntry {H : Type} : Lit × DataW H → Nat
  | (.string bytes, d) => bytes.length + uptoBulk d + 1
  | (_, d) => uptoBulk d + 1
 end
def uptoSmall : (H : Type) → List (DataW H) → Bool := fun _ ds => decide (uptoBulkAll ds ≤ 1048576)
def OpenSpec.upto (s : _root_.Go.ChangeSpec) : _root_.Go.OpenSpec := { _root_.Go.OpenSpec.ofChange s with cond := some uptoSmall }

/-- 'ipsecgatelaw02.HeaderReads', WHERE WHAT IT READS IS OF BULK AT MOST 1048576: true; the input reads as it did. -/
def headerReadsUptoRow : OpenClaim := { program := "ytjkeijkbekdjfaa", sum := "4671399339e6cb0955c3f31998b01b6919a441d1926721c4ffbbf9018adc1c98", func := "ipsecgate/ipsecgatelaw02.HeaderReads", spec := "headerReads", apart := false, narrowed := true }
def HeaderReadsUptoSaid : Prop := headerReadsUptoRow.holds Try.pinned (OpenSpec.upto headerReadsSpec)

/-- 'ipsecgatelaw02.HeaderWrites', WHERE WHAT IT READS IS OF BULK AT MOST 1048576: true; the input reads as it did. -/
def headerWritesUptoRow : OpenClaim := { program := "ytjkeijkbekdjfaa", sum := "4671399339e6cb0955c3f31998b01b6919a441d1926721c4ffbbf9018adc1c98", func := "ipsecgate/ipsecgatelaw02.HeaderWrites", spec := "headerWrites", apart := false, narrowed := true }
def HeaderWritesUptoSaid : Prop := headerWritesUptoRow.holds Try.pinned (OpenSpec.upto headerWritesSpec)

/-- 'ipsecgatelaw02.HeaderReturns', WHERE WHAT IT READS IS OF BULK AT MOST 1048576: true; the input reads as it did. -/
def headerReturnsUptoRow : OpenClaim := { program := "ytjkeijkbekdjfaa", sum := "4671399339e6cb0955c3f31998b01b6919a441d1926721c4ffbbf9018adc1c98", func := "ipsecgate/ipsecgatelaw02.HeaderReturns", spec := "headerReturns", apart := false, narrowed := true }
def HeaderReturnsUptoSaid : Prop := headerReturnsUptoRow.holds Try.pinned (OpenSpec.upto headerReturnsSpec)

/-- 'ipsecgatelaw02.HeaderCuts', WHERE WHAT IT READS IS OF BULK AT MOST 1048576: true; the input reads as it did. -/
def headerCutsUptoRow : OpenClaim := { program := "ytjkeijkbekdjfaa", sum := "4671399339e6cb0955c3f31998b01b6919a441d1926721c4ffbbf9018adc1c98", func := "ipsecgate/ipsecgatelaw02.HeaderCuts", spec := "headerCuts", apart := false, narrowed := true }
def HeaderCutsUptoSaid : Prop := headerCutsUptoRow.holds Try.pinned (OpenSpec.upto headerCutsSpec)

end Rows
end Go.Proofs.Ytjkeijkbekdjfaa
