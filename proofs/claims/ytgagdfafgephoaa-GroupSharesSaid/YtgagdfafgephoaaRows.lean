/-
  No cell of these rows narrows 'for every input' (looked for: loops, veiled, ifaces, maps, wideKeys, modest, calm, conditions, laid).
  DERIVED. THE GIVEN ROWS OF THIS SEAT. 5 by the template 'for every input the law returns true; each argument reads behind the call as it read before'; 0 by the template 'total and deterministic' (their statements: YtgagdfafgephoaaTotals.lean).
  GIVEN WITH THE SEED: the statements are not yours to turn. If you find one false, say at which input.
  Laid BY PROGRAM, IN A SANDBOX (cutbox-rows.mjs): the forced cells as the released guide's own fill.sh prints them over the translation 84fac1a706f8105a… (all of the seat's roots in one cut). By AI agents, Wed Nov 11 2026. No macro, syntax, notation, axiom, sorry.
-/
import Derived.Test.YtgagdfafgephoaaChecked
import GoSem.Claim
import GoSem.ClaimJoined
import GoSem.ClaimMapViews
import Derived.JoinedTies
import Derived.KernelRfl
namespace Go.Proofs.Ytgagdfafgephoaa
/- THE CELL 'sum', in the pinned program and in every row, IS THE sha256 OF THE DUMP (.gsa) THAT YtgagdfafgephoaaProg.lean LOADS. Nothing in Lean hashes anything: it is a label: what it is worth is what the hold of that sum in a sandbox is worth. -/
noncomputable def Try.pinned : Pinned := { name := "ytgagdfafgephoaa", sum := "84fac1a706f8105ac3edcd124cc414cd183758750d4516ebcbd48bb3055007a3", checked := Try.checked }
namespace Rows
def none {H : Type} : Left H := { results := [], args := [] }

/-- 'ipsecgatelaw13.GroupComputes': WHATEVER THE INPUT: true; the input reads as it did. -/
def groupComputesSpec : ChangeSpec := { name := "groupComputes", fn := fun _ => fun
  | [d1, d2, d3] => { results := [.lit (.bool true)], args := [d1, d2, d3] }
  | _ => none }
def groupComputesRow : OpenClaim := { program := "ytgagdfafgephoaa", sum := "84fac1a706f8105ac3edcd124cc414cd183758750d4516ebcbd48bb3055007a3", func := "ipsecgate/ipsecgatelaw13.GroupComputes", spec := "groupComputes", named := ["math/bits.divideError", "math/bits.overflowError"], apart := false }
def GroupComputesSaid : Prop := groupComputesRow.holds Try.pinned (OpenSpec.ofChange groupComputesSpec)

/-- ITS FALSE NEIGHBOUR: 'it returns false'. Refute it at one input. -/
def groupComputesWrong : ChangeSpec := { name := "groupComputes", fn := fun _ => fun
  | [d1, d2, d3] => { results := [.lit (.bool false)], args := [d1, d2, d3] }
  | _ => none }
def GroupComputesWrongFalsely : Prop := groupComputesRow.holds Try.pinned (OpenSpec.ofChange groupComputesWrong)

/-- 'ipsecgatelaw13.GroupShares': WHATEVER THE INPUT: true; the input reads as it did. -/
def groupSharesSpec : ChangeSpec := { name := "groupShares", fn := fun _ => fun
  | [d1, d2, d3, d4] => { results := [.lit (.bool true)], args := [d1, d2, d3, d4] }
  | _ => none }
def groupSharesRow : OpenClaim := { program := "ytgagdfafgephoaa", sum := "84fac1a706f8105ac3edcd124cc414cd183758750d4516ebcbd48bb3055007a3", func := "ipsecgate/ipsecgatelaw13.GroupShares", spec := "groupShares", named := ["math/bits.divideError", "math/bits.overflowError"], apart := false }
def GroupSharesSaid : Prop := groupSharesRow.holds Try.pinned (OpenSpec.ofChange groupSharesSpec)

/-- ITS FALSE NEIGHBOUR: 'it returns false'. Refute it at one input. -/
def groupSharesWrong : ChangeSpec := { name := "groupShares", fn := fun _ => fun
  | [d1, d2, d3, d4] => { results := [.lit (.bool false)], args := [d1, d2, d3, d4] }
  | _ => none }
def GroupSharesWrongFalsely : Prop := groupSharesRow.holds Try.pinned (OpenSpec.ofChange groupSharesWrong)

/-- 'ipsecgatelaw13.GroupAgrees': WHATEVER THE INPUT: true; the input reads as it did. -/
def groupAgreesSpec : ChangeSpec := { name := "groupAgrees", fn := fun _ => fun
  | [d] => { results := [.lit (.bool true)], args := [d] }
  | _ => none }
def groupAgreesRow : OpenClaim := { program := "ytgagdfafgephoaa", sum := "84fac1a706f8105ac3edcd124cc414cd183758750d4516ebcbd48bb3055007a3", func := "ipsecgate/ipsecgatelaw13.GroupAgrees", spec := "groupAgrees", named := ["math/bits.divideError", "math/bits.overflowError"], apart := false }
def GroupAgreesSaid : Prop := groupAgreesRow.holds Try.pinned (OpenSpec.ofChange groupAgreesSpec)

/-- ITS FALSE NEIGHBOUR: 'it returns false'. Refute it at one input. -/
def groupAgreesWrong : ChangeSpec := { name := "groupAgrees", fn := fun _ => fun
  | [d] => { results := [.lit (.bool false)], args := [d] }
  | _ => none }
def GroupAgreesWrongFalsely : Prop := groupAgreesRow.holds Try.pinned (OpenSpec.ofChange groupAgreesWrong)

/-- 'ipsecgatelaw13.GroupLaws': WHATEVER THE INPUT: true; the input reads as it did. -/
def groupLawsSpec : ChangeSpec := { name := "groupLaws", fn := fun _ => fun
  | [d1, d2, d3] => { results := [.lit (.bool true)], args := [d1, d2, d3] }
  | _ => none }
def groupLawsRow : OpenClaim := { program := "ytgagdfafgephoaa", sum := "84fac1a706f8105ac3edcd124cc414cd183758750d4516ebcbd48bb3055007a3", func := "ipsecgate/ipsecgatelaw13.GroupLaws", spec := "groupLaws", named := ["math/bits.divideError", "math/bits.overflowError"], apart := false }
def GroupLawsSaid : Prop := groupLawsRow.holds Try.pinned (OpenSpec.ofChange groupLawsSpec)

/-- ITS FALSE NEIGHBOUR: 'it returns false'. Refute it at one input. -/
def groupLawsWrong : ChangeSpec := { name := "groupLaws", fn := fun _ => fun
  | [d1, d2, d3] => { results := [.lit (.bool false)], args := [d1, d2, d3] }
  | _ => none }
def GroupLawsWrongFalsely : Prop := groupLawsRow.holds Try.pinned (OpenSpec.ofChange groupLawsWrong)

/-- 'ipsecgatelaw13.GroupOrders': WHATEVER THE INPUT: true; the input reads as it did. -/
def groupOrdersSpec : ChangeSpec := { name := "groupOrders", fn := fun _ => fun
  | [d1, d2] => { results := [.lit (.bool true)], args := [d1, d2] }
  | _ => none }
def groupOrdersRow : OpenClaim := { program := "ytgagdfafgephoaa", sum := "84fac1a706f8105ac3edcd124cc414cd183758750d4516ebcbd48bb3055007a3", func := "ipsecgate/ipsecgatelaw13.GroupOrders", spec := "groupOrders", named := ["math/bits.divideError", "math/bits.overflowError"], apart := false }
def GroupOrdersSaid : Prop := groupOrdersRow.holds Try.pinned (OpenSpec.ofChange groupOrdersSpec)

/-- ITS FALSE NEIGHBOUR: 'it returns false'. Refute it at one input. -/
def groupOrdersWrong : ChangeSpec := { name := "groupOrders", fn := fun _ => fun
  | [d1, d2] => { results := [.lit (.bool false)], args := [d1, d2] }
  | _ => none }
def GroupOrdersWrongFalsely : Prop := groupOrdersRow.holds Try.pinned (OpenSpec.ofChange groupOrdersWrong)

/- THE SECOND FORM. 'bulk': how many values and letters a reading holds, each counted each time it is reached (what is shared counts as often as it is met; a slice's spare places count too). A statement '..UptoSaid' is the law's where the arguments, and the package variables that the reading takes, are together of bulk at most 1048576: NARROWER than '..Said'. Prove '..Said' where nothing that the law and all that it calls make is longer than what came in: it says more and counts as full. Else prove '..UptoSaid'. A law counts once. -/
mutual
def uptoBulk {H : Type} : DataW H → Nat
  | .lit (.string bytes) => bytes.length + 1
  | .lit _ => 1
  | .nil => 1
  | .ptr d => uptoBulk d + 1
  | .slice elems spare => uptoBulkAll elems + uptoBulkAll spare + 1
  | .agg parts => uptoBulkAll parts + 1
  | .iface _ d => uptoBulk d + 1
  | .map entries => uptoBulkEntries entries + 1
  | .held _ => 1
def uptoBulkAll {H : Type} : List (DataW H) → Nat
  | [] => 0
  | d :: r => uptoBulk d + uptoBulkAll r
def uptoBulkEntries {H : Type} : List (Lit × DataW H) → Nat
  | [] => 0
  | x :: r => uptoBulkEntry x + uptoBulkEntries r
def uptoBulkEntry {H : Type} : Lit × DataW H → Nat
  | (.string bytes, d) => bytes.length + uptoBulk d + 1
  | (_, d) => uptoBulk d + 1
 end
def uptoSmall : (H : Type) → List (DataW H) → Bool := fun _ ds => decide (uptoBulkAll ds ≤ 1048576)
def OpenSpec.upto (s : _root_.Go.ChangeSpec) : _root_.Go.OpenSpec := { _root_.Go.OpenSpec.ofChange s with cond := some uptoSmall }

/-- 'ipsecgatelaw13.GroupComputes', WHERE WHAT IT READS IS OF BULK AT MOST 1048576: true; the input reads as it did. -/
def groupComputesUptoRow : OpenClaim := { program := "ytgagdfafgephoaa", sum := "84fac1a706f8105ac3edcd124cc414cd183758750d4516ebcbd48bb3055007a3", func := "ipsecgate/ipsecgatelaw13.GroupComputes", spec := "groupComputes", named := ["math/bits.divideError", "math/bits.overflowError"], apart := false, narrowed := true }
def GroupComputesUptoSaid : Prop := groupComputesUptoRow.holds Try.pinned (OpenSpec.upto groupComputesSpec)

/-- 'ipsecgatelaw13.GroupShares', WHERE WHAT IT READS IS OF BULK AT MOST 1048576: true; the input reads as it did. -/
def groupSharesUptoRow : OpenClaim := { program := "ytgagdfafgephoaa", sum := "84fac1a706f8105ac3edcd124cc414cd183758750d4516ebcbd48bb3055007a3", func := "ipsecgate/ipsecgatelaw13.GroupShares", spec := "groupShares", named := ["math/bits.divideError", "math/bits.overflowError"], apart := false, narrowed := true }
def GroupSharesUptoSaid : Prop := groupSharesUptoRow.holds Try.pinned (OpenSpec.upto groupSharesSpec)

/-- 'ipsecgatelaw13.GroupAgrees', WHERE WHAT IT READS IS OF BULK AT MOST 1048576: true; the input reads as it did. -/
def groupAgreesUptoRow : OpenClaim := { program := "ytgagdfafgephoaa", sum := "84fac1a706f8105ac3edcd124cc414cd183758750d4516ebcbd48bb3055007a3", func := "ipsecgate/ipsecgatelaw13.GroupAgrees", spec := "groupAgrees", named := ["math/bits.divideError", "math/bits.overflowError"], apart := false, narrowed := true }
def GroupAgreesUptoSaid : Prop := groupAgreesUptoRow.holds Try.pinned (OpenSpec.upto groupAgreesSpec)

/-- 'ipsecgatelaw13.GroupLaws', WHERE WHAT IT READS IS OF BULK AT MOST 1048576: true; the input reads as it did. -/
def groupLawsUptoRow : OpenClaim := { program := "ytgagdfafgephoaa", sum := "84fac1a706f8105ac3edcd124cc414cd183758750d4516ebcbd48bb3055007a3", func := "ipsecgate/ipsecgatelaw13.GroupLaws", spec := "groupLaws", named := ["math/bits.divideError", "math/bits.overflowError"], apart := false, narrowed := true }
def GroupLawsUptoSaid : Prop := groupLawsUptoRow.holds Try.pinned (OpenSpec.upto groupLawsSpec)

/-- 'ipsecgatelaw13.GroupOrders', WHERE WHAT IT READS IS OF BULK AT MOST 1048576: true; the input reads as it did. -/
def groupOrdersUptoRow : OpenClaim := { program := "ytgagdfafgephoaa", sum := "84fac1a706f8105ac3edcd124cc414cd183758750d4516ebcbd48bb3055007a3", func := "ipsecgate/ipsecgatelaw13.GroupOrders", spec := "groupOrders", named := ["math/bits.divideError", "math/bits.overflowError"], apart := false, narrowed := true }
def GroupOrdersUptoSaid : Prop := groupOrdersUptoRow.holds Try.pinned (OpenSpec.upto groupOrdersSpec)

end Rows
end Go.Proofs.Ytgagdfafgephoaa
