/-
  No cell of these rows narrows 'for every input' (looked for: loops, veiled, ifaces, maps, wideKeys, modest, calm, conditions, laid).
  DERIVED. THE GIVEN ROWS OF THIS SEAT. 9 by the template 'for every input the law returns true; each argument reads behind the call as it read before'; 0 by the template 'total and deterministic' (their statements: YtnehhpkdfkemaaaTotals.lean).
  GIVEN WITH THE SEED: the statements are not yours to turn. If you find one false, say at which input.
  Laid BY PROGRAM, IN A SANDBOX (cutbox-rows.mjs): the forced cells as the released guide's own fill.sh prints them over the translation cd99b5ba149163e5… (all of the seat's roots in one cut). By AI agents, Wed Nov 11 2026. No macro, syntax, notation, axiom, sorry.
-/
import Derived.Test.YtnehhpkdfkemaaaChecked
import GoSem.Claim
import GoSem.ClaimJoined
import GoSem.ClaimMapViews
import Derived.JoinedTies
import Derived.KernelRfl
namespace Go.Proofs.Ytnehhpkdfkemaaa
/- THE CELL 'sum', in the pinned program and in every row, IS THE sha256 OF THE DUMP (.gsa) THAT YtnehhpkdfkemaaaProg.lean LOADS. Nothing in Lean hashes anything: it is a label: what it is worth is what the hold of that sum in a sandbox is worth. -/
noncomputable def Try.pinned : Pinned := { name := "ytnehhpkdfkemaaa", sum := "cd99b5ba149163e5e7c0abf23b3363b5953ea44d916f18a0d1d2c814c21d851f", checked := Try.checked }
namespace Rows
def none {H : Type} : Left H := { results := [], args := [] }

/-- 'ipsecgatelaw04.ProposalReads': WHATEVER THE INPUT: true; the input reads as it did. -/
def proposalReadsSpec : ChangeSpec := { name := "proposalReads", fn := fun _ => fun
  | [d1, d2] => { results := [.lit (.bool true)], args := [d1, d2] }
  | _ => none }
def proposalReadsRow : OpenClaim := { program := "ytnehhpkdfkemaaa", sum := "cd99b5ba149163e5e7c0abf23b3363b5953ea44d916f18a0d1d2c814c21d851f", func := "ipsecgate/ipsecgatelaw04.ProposalReads", spec := "proposalReads", unfollowed := true, recurses := true, plainKeys := false, apart := false }
def ProposalReadsSaid : Prop := proposalReadsRow.holds Try.pinned (OpenSpec.ofChange proposalReadsSpec)

/-- ITS FALSE NEIGHBOUR: 'it returns false'. Refute it at one input. -/
def proposalReadsWrong : ChangeSpec := { name := "proposalReads", fn := fun _ => fun
  | [d1, d2] => { results := [.lit (.bool false)], args := [d1, d2] }
  | _ => none }
def ProposalReadsWrongFalsely : Prop := proposalReadsRow.holds Try.pinned (OpenSpec.ofChange proposalReadsWrong)

/-- 'ipsecgatelaw04.ProposalWrites': WHATEVER THE INPUT: true; the input reads as it did. -/
def proposalWritesSpec : ChangeSpec := { name := "proposalWrites", fn := fun _ => fun
  | [d] => { results := [.lit (.bool true)], args := [d] }
  | _ => none }
def proposalWritesRow : OpenClaim := { program := "ytnehhpkdfkemaaa", sum := "cd99b5ba149163e5e7c0abf23b3363b5953ea44d916f18a0d1d2c814c21d851f", func := "ipsecgate/ipsecgatelaw04.ProposalWrites", spec := "proposalWrites", unfollowed := true, recurses := true, plainKeys := false, apart := false }
def ProposalWritesSaid : Prop := proposalWritesRow.holds Try.pinned (OpenSpec.ofChange proposalWritesSpec)

/-- ITS FALSE NEIGHBOUR: 'it returns false'. Refute it at one input. -/
def proposalWritesWrong : ChangeSpec := { name := "proposalWrites", fn := fun _ => fun
  | [d] => { results := [.lit (.bool false)], args := [d] }
  | _ => none }
def ProposalWritesWrongFalsely : Prop := proposalWritesRow.holds Try.pinned (OpenSpec.ofChange proposalWritesWrong)

/-- 'ipsecgatelaw04.ProposalCuts': WHATEVER THE INPUT: true; the input reads as it did. -/
def proposalCutsSpec : ChangeSpec := { name := "proposalCuts", fn := fun _ => fun
  | [d1, d2] => { results := [.lit (.bool true)], args := [d1, d2] }
  | _ => none }
def proposalCutsRow : OpenClaim := { program := "ytnehhpkdfkemaaa", sum := "cd99b5ba149163e5e7c0abf23b3363b5953ea44d916f18a0d1d2c814c21d851f", func := "ipsecgate/ipsecgatelaw04.ProposalCuts", spec := "proposalCuts", unfollowed := true, recurses := true, plainKeys := false, apart := false }
def ProposalCutsSaid : Prop := proposalCutsRow.holds Try.pinned (OpenSpec.ofChange proposalCutsSpec)

/-- ITS FALSE NEIGHBOUR: 'it returns false'. Refute it at one input. -/
def proposalCutsWrong : ChangeSpec := { name := "proposalCuts", fn := fun _ => fun
  | [d1, d2] => { results := [.lit (.bool false)], args := [d1, d2] }
  | _ => none }
def ProposalCutsWrongFalsely : Prop := proposalCutsRow.holds Try.pinned (OpenSpec.ofChange proposalCutsWrong)

/-- 'ipsecgatelaw04.ProposalCounts': WHATEVER THE INPUT: true; the input reads as it did. -/
def proposalCountsSpec : ChangeSpec := { name := "proposalCounts", fn := fun _ => fun
  | [d1, d2] => { results := [.lit (.bool true)], args := [d1, d2] }
  | _ => none }
def proposalCountsRow : OpenClaim := { program := "ytnehhpkdfkemaaa", sum := "cd99b5ba149163e5e7c0abf23b3363b5953ea44d916f18a0d1d2c814c21d851f", func := "ipsecgate/ipsecgatelaw04.ProposalCounts", spec := "proposalCounts", unfollowed := true, recurses := true, plainKeys := false, apart := false }
def ProposalCountsSaid : Prop := proposalCountsRow.holds Try.pinned (OpenSpec.ofChange proposalCountsSpec)

/-- ITS FALSE NEIGHBOUR: 'it returns false'. Refute it at one input. -/
def proposalCountsWrong : ChangeSpec := { name := "proposalCounts", fn := fun _ => fun
  | [d1, d2] => { results := [.lit (.bool false)], args := [d1, d2] }
  | _ => none }
def ProposalCountsWrongFalsely : Prop := proposalCountsRow.holds Try.pinned (OpenSpec.ofChange proposalCountsWrong)

/-- 'ipsecgatelaw05.SelectorReads': WHATEVER THE INPUT: true; the input reads as it did. -/
def selectorReadsSpec : ChangeSpec := { name := "selectorReads", fn := fun _ => fun
  | [d1, d2] => { results := [.lit (.bool true)], args := [d1, d2] }
  | _ => none }
def selectorReadsRow : OpenClaim := { program := "ytnehhpkdfkemaaa", sum := "cd99b5ba149163e5e7c0abf23b3363b5953ea44d916f18a0d1d2c814c21d851f", func := "ipsecgate/ipsecgatelaw05.SelectorReads", spec := "selectorReads", plainKeys := false, apart := false }
def SelectorReadsSaid : Prop := selectorReadsRow.holds Try.pinned (OpenSpec.ofChange selectorReadsSpec)

/-- ITS FALSE NEIGHBOUR: 'it returns false'. Refute it at one input. -/
def selectorReadsWrong : ChangeSpec := { name := "selectorReads", fn := fun _ => fun
  | [d1, d2] => { results := [.lit (.bool false)], args := [d1, d2] }
  | _ => none }
def SelectorReadsWrongFalsely : Prop := selectorReadsRow.holds Try.pinned (OpenSpec.ofChange selectorReadsWrong)

/-- 'ipsecgatelaw05.SelectorWrites': WHATEVER THE INPUT: true; the input reads as it did. -/
def selectorWritesSpec : ChangeSpec := { name := "selectorWrites", fn := fun _ => fun
  | [d1, d2, d3, d4] => { results := [.lit (.bool true)], args := [d1, d2, d3, d4] }
  | _ => none }
def selectorWritesRow : OpenClaim := { program := "ytnehhpkdfkemaaa", sum := "cd99b5ba149163e5e7c0abf23b3363b5953ea44d916f18a0d1d2c814c21d851f", func := "ipsecgate/ipsecgatelaw05.SelectorWrites", spec := "selectorWrites", plainKeys := false, apart := false }
def SelectorWritesSaid : Prop := selectorWritesRow.holds Try.pinned (OpenSpec.ofChange selectorWritesSpec)

/-- ITS FALSE NEIGHBOUR: 'it returns false'. Refute it at one input. -/
def selectorWritesWrong : ChangeSpec := { name := "selectorWrites", fn := fun _ => fun
  | [d1, d2, d3, d4] => { results := [.lit (.bool false)], args := [d1, d2, d3, d4] }
  | _ => none }
def SelectorWritesWrongFalsely : Prop := selectorWritesRow.holds Try.pinned (OpenSpec.ofChange selectorWritesWrong)

/-- 'ipsecgatelaw05.SelectorReturns': WHATEVER THE INPUT: true; the input reads as it did. -/
def selectorReturnsSpec : ChangeSpec := { name := "selectorReturns", fn := fun _ => fun
  | [d1, d2] => { results := [.lit (.bool true)], args := [d1, d2] }
  | _ => none }
def selectorReturnsRow : OpenClaim := { program := "ytnehhpkdfkemaaa", sum := "cd99b5ba149163e5e7c0abf23b3363b5953ea44d916f18a0d1d2c814c21d851f", func := "ipsecgate/ipsecgatelaw05.SelectorReturns", spec := "selectorReturns", plainKeys := false, apart := false }
def SelectorReturnsSaid : Prop := selectorReturnsRow.holds Try.pinned (OpenSpec.ofChange selectorReturnsSpec)

/-- ITS FALSE NEIGHBOUR: 'it returns false'. Refute it at one input. -/
def selectorReturnsWrong : ChangeSpec := { name := "selectorReturns", fn := fun _ => fun
  | [d1, d2] => { results := [.lit (.bool false)], args := [d1, d2] }
  | _ => none }
def SelectorReturnsWrongFalsely : Prop := selectorReturnsRow.holds Try.pinned (OpenSpec.ofChange selectorReturnsWrong)

/-- 'ipsecgatelaw05.SelectorSets': WHATEVER THE INPUT: true; the input reads as it did. -/
def selectorSetsSpec : ChangeSpec := { name := "selectorSets", fn := fun _ => fun
  | [d1, d2] => { results := [.lit (.bool true)], args := [d1, d2] }
  | _ => none }
def selectorSetsRow : OpenClaim := { program := "ytnehhpkdfkemaaa", sum := "cd99b5ba149163e5e7c0abf23b3363b5953ea44d916f18a0d1d2c814c21d851f", func := "ipsecgate/ipsecgatelaw05.SelectorSets", spec := "selectorSets", plainKeys := false, apart := false }
def SelectorSetsSaid : Prop := selectorSetsRow.holds Try.pinned (OpenSpec.ofChange selectorSetsSpec)

/-- ITS FALSE NEIGHBOUR: 'it returns false'. Refute it at one input. -/
def selectorSetsWrong : ChangeSpec := { name := "selectorSets", fn := fun _ => fun
  | [d1, d2] => { results := [.lit (.bool false)], args := [d1, d2] }
  | _ => none }
def SelectorSetsWrongFalsely : Prop := selectorSetsRow.holds Try.pinned (OpenSpec.ofChange selectorSetsWrong)

/-- 'ipsecgatelaw05.SelectorMeets': WHATEVER THE INPUT: true; the input reads as it did. -/
def selectorMeetsSpec : ChangeSpec := { name := "selectorMeets", fn := fun _ => fun
  | [d] => { results := [.lit (.bool true)], args := [d] }
  | _ => none }
def selectorMeetsRow : OpenClaim := { program := "ytnehhpkdfkemaaa", sum := "cd99b5ba149163e5e7c0abf23b3363b5953ea44d916f18a0d1d2c814c21d851f", func := "ipsecgate/ipsecgatelaw05.SelectorMeets", spec := "selectorMeets", plainKeys := false, apart := false }
def SelectorMeetsSaid : Prop := selectorMeetsRow.holds Try.pinned (OpenSpec.ofChange selectorMeetsSpec)

/-- ITS FALSE NEIGHBOUR: 'it returns false'. Refute it at one input. -/
def selectorMeetsWrong : ChangeSpec := { name := "selectorMeets", fn := fun _ => fun
  | [d] => { results := [.lit (.bool false)], args := [d] }
  | _ => none }
def SelectorMeetsWrongFalsely : Prop := selectorMeetsRow.holds Try.pinned (OpenSpec.ofChange selectorMeetsWrong)

/- THE SECOND FORM. 'bulk': how many values and letters a reading holds, each counted each time it is reached (what is shared counts as often as it is met; a slice's spare places count too). A statement '..UptoSaid' is the law's where the arguments, and the package variables that the reading takes, are together of bulk at most 1048576: NARROWER than '..Said'. Prove '..Said' where nothing that the law and all that it calls make is longer than what came in: it says more and counts as full. Else prove '..UptoSaid'. A law counts once. -/
mutual
def uptoBulk {H : Type} : DataW H → Nat
  | .lit (.string bytes) => bytes.length + 1
  | .lit _ => 1
  | .nil => 1
  | .ptr d => uptoBulk d + 1
  | .slice elems spare => uptoBulkAll elems + uptoBulkAll spare + 1
  | .agg parts => uptoBulkAll parts + 1
  | .iface _ d => uptoBulk d + 1
  | .map entries => uptoBulkEntries entries + 1
  | .held _ => 1
def uptoBulkAll {H : Type} : List (DataW H) → Nat
  | [] => 0
  | d :: r => uptoBulk d + uptoBulkAll r
def uptoBulkEntries {H : Type} : List (Lit × DataW H) → Nat
  | [] => 0
  | x :: r => uptoBulkEntry x + uptoBulkEntries r
def uptoBulkEntry {H : Type} : Lit × DataW H → Nat
  | (.string bytes, d) => bytes.length + uptoBulk d + 1
  | (_, d) => uptoBulk d + 1
 end
def uptoSmall : (H : Type) → List (DataW H) → Bool := fun _ ds => decide (uptoBulkAll ds ≤ 1048576)
def OpenSpec.upto (s : _root_.Go.ChangeSpec) : _root_.Go.OpenSpec := { _root_.Go.OpenSpec.ofChange s with cond := some uptoSmall }

/-- 'ipsecgatelaw04.ProposalReads', WHERE WHAT IT READS IS OF BULK AT MOST 1048576: true; the input reads as it did. -/
def proposalReadsUptoRow : OpenClaim := { program := "ytnehhpkdfkemaaa", sum := "cd99b5ba149163e5e7c0abf23b3363b5953ea44d916f18a0d1d2c814c21d851f", func := "ipsecgate/ipsecgatelaw04.ProposalReads", spec := "proposalReads", unfollowed := true, recurses := true, plainKeys := false, apart := false, narrowed := true }
def ProposalReadsUptoSaid : Prop := proposalReadsUptoRow.holds Try.pinned (OpenSpec.upto proposalReadsSpec)

/-- 'ipsecgatelaw04.ProposalWrites', WHERE WHAT IT READS IS OF BULK AT MOST 1048576: true; the input reads as it did. -/
def proposalWritesUptoRow : OpenClaim := { program := "ytnehhpkdfkemaaa", sum := "cd99b5ba149163e5e7c0abf23b3363b5953ea44d916f18a0d1d2c814c21d851f", func := "ipsecgate/ipsecgatelaw04.ProposalWrites", spec := "proposalWrites", unfollowed := true, recurses := true, plainKeys := false, apart := false, narrowed := true }
def ProposalWritesUptoSaid : Prop := proposalWritesUptoRow.holds Try.pinned (OpenSpec.upto proposalWritesSpec)

/-- 'ipsecgatelaw04.ProposalCuts', WHERE WHAT IT READS IS OF BULK AT MOST 1048576: true; the input reads as it did. -/
def proposalCutsUptoRow : OpenClaim := { program := "ytnehhpkdfkemaaa", sum := "cd99b5ba149163e5e7c0abf23b3363b5953ea44d916f18a0d1d2c814c21d851f", func := "ipsecgate/ipsecgatelaw04.ProposalCuts", spec := "proposalCuts", unfollowed := true, recurses := true, plainKeys := false, apart := false, narrowed := true }
def ProposalCutsUptoSaid : Prop := proposalCutsUptoRow.holds Try.pinned (OpenSpec.upto proposalCutsSpec)

/-- 'ipsecgatelaw04.ProposalCounts', WHERE WHAT IT READS IS OF BULK AT MOST 1048576: true; the input reads as it did. -/
def proposalCountsUptoRow : OpenClaim := { program := "ytnehhpkdfkemaaa", sum := "cd99b5ba149163e5e7c0abf23b3363b5953ea44d916f18a0d1d2c814c21d851f", func := "ipsecgate/ipsecgatelaw04.ProposalCounts", spec := "proposalCounts", unfollowed := true, recurses := true, plainKeys := false, apart := false, narrowed := true }
def ProposalCountsUptoSaid : Prop := proposalCountsUptoRow.holds Try.pinned (OpenSpec.upto proposalCountsSpec)

/-- 'ipsecgatelaw05.SelectorReads', WHERE WHAT IT READS IS OF BULK AT MOST 1048576: true; the input reads as it did. -/
def selectorReadsUptoRow : OpenClaim := { program := "ytnehhpkdfkemaaa", sum := "cd99b5ba149163e5e7c0abf23b3363b5953ea44d916f18a0d1d2c814c21d851f", func := "ipsecgate/ipsecgatelaw05.SelectorReads", spec := "selectorReads", plainKeys := false, apart := false, narrowed := true }
def SelectorReadsUptoSaid : Prop := selectorReadsUptoRow.holds Try.pinned (OpenSpec.upto selectorReadsSpec)

/-- 'ipsecgatelaw05.SelectorWrites', WHERE WHAT IT READS IS OF BULK AT MOST 1048576: true; the input reads as it did. -/
def selectorWritesUptoRow : OpenClaim := { program := "ytnehhpkdfkemaaa", sum := "cd99b5ba149163e5e7c0abf23b3363b5953ea44d916f18a0d1d2c814c21d851f", func := "ipsecgate/ipsecgatelaw05.SelectorWrites", spec := "selectorWrites", plainKeys := false, apart := false, narrowed := true }
def SelectorWritesUptoSaid : Prop := selectorWritesUptoRow.holds Try.pinned (OpenSpec.upto selectorWritesSpec)

/-- 'ipsecgatelaw05.SelectorReturns', WHERE WHAT IT READS IS OF BULK AT MOST 1048576: true; the input reads as it did. -/
def selectorReturnsUptoRow : OpenClaim := { program := "ytnehhpkdfkemaaa", sum := "cd99b5ba149163e5e7c0abf23b3363b5953ea44d916f18a0d1d2c814c21d851f", func := "ipsecgate/ipsecgatelaw05.SelectorReturns", spec := "selectorReturns", plainKeys := false, apart := false, narrowed := true }
def SelectorReturnsUptoSaid : Prop := selectorReturnsUptoRow.holds Try.pinned (OpenSpec.upto selectorReturnsSpec)

/-- 'ipsecgatelaw05.SelectorSets', WHERE WHAT IT READS IS OF BULK AT MOST 1048576: true; the input reads as it did. -/
def selectorSetsUptoRow : OpenClaim := { program := "ytnehhpkdfkemaaa", sum := "cd99b5ba149163e5e7c0abf23b3363b5953ea44d916f18a0d1d2c814c21d851f", func := "ipsecgate/ipsecgatelaw05.SelectorSets", spec := "selectorSets", plainKeys := false, apart := false, narrowed := true }
def SelectorSetsUptoSaid : Prop := selectorSetsUptoRow.holds Try.pinned (OpenSpec.upto selectorSetsSpec)

/-- 'ipsecgatelaw05.SelectorMeets', WHERE WHAT IT READS IS OF BULK AT MOST 1048576: true; the input reads as it did. -/
def selectorMeetsUptoRow : OpenClaim := { program := "ytnehhpkdfkemaaa", sum := "cd99b5ba149163e5e7c0abf23b3363b5953ea44d916f18a0d1d2c814c21d851f", func := "ipsecgate/ipsecgatelaw05.SelectorMeets", spec := "selectorMeets", plainKeys := false, apart := false, narrowed := true }
def SelectorMeetsUptoSaid : Prop := selectorMeetsUptoRow.holds Try.pinned (OpenSpec.upto selectorMeetsSpec)

end Rows
end Go.Proofs.Ytnehhpkdfkemaaa
