/-
  NARROWER THAN 'FOR EVERY INPUT', by the rows' own cells (each row's printed sentence says how): PayloadReturns: laid · ChachaBlocks: laid · ChachaTurns: laid · ChachaStreams: laid.
  DERIVED. THE GIVEN ROWS OF THIS SEAT. 4 by the template 'for every input the law returns true; each argument reads behind the call as it read before'; 0 by the template 'total and deterministic' (their statements: YtnnpecfineanlaaDoorTotals.lean).
  GIVEN WITH THE SEED: the statements are not yours to turn. If you find one false, say at which input.
  Laid BY PROGRAM, IN A SANDBOX (cutbox-rows.mjs): the forced cells as the released guide's own fill.sh prints them over the translation 0281009d2e8c544e… (all of the seat's roots in one cut). By AI agents, Wed Nov 11 2026. No macro, syntax, notation, axiom, sorry.
-/
import Derived.Test.YtnnpecfineanlaaDoorChecked
import GoSem.Claim
import GoSem.ClaimJoined
import GoSem.ClaimMapViews
import Derived.JoinedTies
import Derived.KernelRfl
namespace Go.Proofs.YtnnpecfineanlaaDoor
/- THE CELL 'sum', in the pinned program and in every row, IS THE sha256 OF THE DUMP (.gsa) THAT YtnnpecfineanlaaDoorProg.lean LOADS. Nothing in Lean hashes anything: it is a label: what it is worth is what the hold of that sum in a sandbox is worth. -/
noncomputable def Tryd.pinned : Pinned := { name := "ytnnpecfineanlaadoor", sum := "0281009d2e8c544eeb837cb760f9c211ab5d1f7fb72f39d624fcceb82a676eb7", checked := Tryd.checked }
namespace Rows
def none {H : Type} : Left H := { results := [], args := [] }

/- WHAT THE LISTED PACKAGE-LEVEL VARIABLES READ AS WHEN THE CALL BEGINS. Each datum BY PROGRAM (the guide's laid-datum.mjs) off the statement by which the dump's own 'gosem.cut.vars' lays the variable. In a bare row this is a premise. The card (YtnnpecfineanlaaDoorCards.lean) ties it to the program's text. -/
def laid_ipsecgate_ipsecgatemake_Kinds {H : Type} : DataW H := .agg [.lit (.int .i64 33), .lit (.int .i64 34), .lit (.int .i64 40), .lit (.int .i64 35), .lit (.int .i64 36), .lit (.int .i64 39), .lit (.int .i64 44), .lit (.int .i64 45), .lit (.int .i64 41), .lit (.int .i64 42), .lit (.int .i64 43), .lit (.int .i64 37)]
def laid_ipsecgate_chacha_quarters {H : Type} : DataW H := .agg [.agg [.lit (.int .i64 0), .lit (.int .i64 4), .lit (.int .i64 8), .lit (.int .i64 12)], .agg [.lit (.int .i64 1), .lit (.int .i64 5), .lit (.int .i64 9), .lit (.int .i64 13)], .agg [.lit (.int .i64 2), .lit (.int .i64 6), .lit (.int .i64 10), .lit (.int .i64 14)], .agg [.lit (.int .i64 3), .lit (.int .i64 7), .lit (.int .i64 11), .lit (.int .i64 15)], .agg [.lit (.int .i64 0), .lit (.int .i64 5), .lit (.int .i64 10), .lit (.int .i64 15)], .agg [.lit (.int .i64 1), .lit (.int .i64 6), .lit (.int .i64 11), .lit (.int .i64 12)], .agg [.lit (.int .i64 2), .lit (.int .i64 7), .lit (.int .i64 8), .lit (.int .i64 13)], .agg [.lit (.int .i64 3), .lit (.int .i64 4), .lit (.int .i64 9), .lit (.int .i64 14)]]

/-- 'ipsecgatelaw06.PayloadReturns': WHATEVER THE INPUT: true; the input reads as it did. -/
def payloadReturnsSpec : ChangeSpec := { name := "payloadReturns", fn := fun _ => fun
  | [d] => { results := [.lit (.bool true)], args := [d] }
  | _ => none }
def payloadReturnsRow : OpenClaim := { program := "ytnnpecfineanlaadoor", sum := "0281009d2e8c544eeb837cb760f9c211ab5d1f7fb72f39d624fcceb82a676eb7", func := "ipsecgate/ipsecgatelaw06.PayloadReturns", spec := "payloadReturns", unfollowed := true, recurses := true, named := ["ipsecgate/ipsecgatemake.Kinds"], plainKeys := false, apart := false, laid := [("ipsecgate/ipsecgatemake.Kinds", laid_ipsecgate_ipsecgatemake_Kinds)] }
def PayloadReturnsSaid : Prop := payloadReturnsRow.holds Tryd.pinned (OpenSpec.ofChange payloadReturnsSpec)

/-- ITS FALSE NEIGHBOUR: 'it returns false'. Refute it at one input. -/
def payloadReturnsWrong : ChangeSpec := { name := "payloadReturns", fn := fun _ => fun
  | [d] => { results := [.lit (.bool false)], args := [d] }
  | _ => none }
def PayloadReturnsWrongFalsely : Prop := payloadReturnsRow.holds Tryd.pinned (OpenSpec.ofChange payloadReturnsWrong)

/-- 'ipsecgatelaw10.ChachaBlocks': WHATEVER THE INPUT: true; the input reads as it did. -/
def chachaBlocksSpec : ChangeSpec := { name := "chachaBlocks", fn := fun _ => fun
  | [d1, d2, d3, d4, d5] => { results := [.lit (.bool true)], args := [d1, d2, d3, d4, d5] }
  | _ => none }
def chachaBlocksRow : OpenClaim := { program := "ytnnpecfineanlaadoor", sum := "0281009d2e8c544eeb837cb760f9c211ab5d1f7fb72f39d624fcceb82a676eb7", func := "ipsecgate/ipsecgatelaw10.ChachaBlocks", spec := "chachaBlocks", unfollowed := true, recurses := true, named := ["ipsecgate/chacha.quarters"], plainKeys := false, apart := false, laid := [("ipsecgate/chacha.quarters", laid_ipsecgate_chacha_quarters)] }
def ChachaBlocksSaid : Prop := chachaBlocksRow.holds Tryd.pinned (OpenSpec.ofChange chachaBlocksSpec)

/-- ITS FALSE NEIGHBOUR: 'it returns false'. Refute it at one input. -/
def chachaBlocksWrong : ChangeSpec := { name := "chachaBlocks", fn := fun _ => fun
  | [d1, d2, d3, d4, d5] => { results := [.lit (.bool false)], args := [d1, d2, d3, d4, d5] }
  | _ => none }
def ChachaBlocksWrongFalsely : Prop := chachaBlocksRow.holds Tryd.pinned (OpenSpec.ofChange chachaBlocksWrong)

/-- 'ipsecgatelaw10.ChachaTurns': WHATEVER THE INPUT: true; the input reads as it did. -/
def chachaTurnsSpec : ChangeSpec := { name := "chachaTurns", fn := fun _ => fun
  | [d1, d2, d3, d4] => { results := [.lit (.bool true)], args := [d1, d2, d3, d4] }
  | _ => none }
def chachaTurnsRow : OpenClaim := { program := "ytnnpecfineanlaadoor", sum := "0281009d2e8c544eeb837cb760f9c211ab5d1f7fb72f39d624fcceb82a676eb7", func := "ipsecgate/ipsecgatelaw10.ChachaTurns", spec := "chachaTurns", unfollowed := true, recurses := true, named := ["ipsecgate/chacha.quarters"], plainKeys := false, apart := false, laid := [("ipsecgate/chacha.quarters", laid_ipsecgate_chacha_quarters)] }
def ChachaTurnsSaid : Prop := chachaTurnsRow.holds Tryd.pinned (OpenSpec.ofChange chachaTurnsSpec)

/-- ITS FALSE NEIGHBOUR: 'it returns false'. Refute it at one input. -/
def chachaTurnsWrong : ChangeSpec := { name := "chachaTurns", fn := fun _ => fun
  | [d1, d2, d3, d4] => { results := [.lit (.bool false)], args := [d1, d2, d3, d4] }
  | _ => none }
def ChachaTurnsWrongFalsely : Prop := chachaTurnsRow.holds Tryd.pinned (OpenSpec.ofChange chachaTurnsWrong)

/-- 'ipsecgatelaw10.ChachaStreams': WHATEVER THE INPUT: true; the input reads as it did. -/
def chachaStreamsSpec : ChangeSpec := { name := "chachaStreams", fn := fun _ => fun
  | [d1, d2, d3] => { results := [.lit (.bool true)], args := [d1, d2, d3] }
  | _ => none }
def chachaStreamsRow : OpenClaim := { program := "ytnnpecfineanlaadoor", sum := "0281009d2e8c544eeb837cb760f9c211ab5d1f7fb72f39d624fcceb82a676eb7", func := "ipsecgate/ipsecgatelaw10.ChachaStreams", spec := "chachaStreams", unfollowed := true, recurses := true, named := ["ipsecgate/chacha.quarters"], plainKeys := false, apart := false, laid := [("ipsecgate/chacha.quarters", laid_ipsecgate_chacha_quarters)] }
def ChachaStreamsSaid : Prop := chachaStreamsRow.holds Tryd.pinned (OpenSpec.ofChange chachaStreamsSpec)

/-- ITS FALSE NEIGHBOUR: 'it returns false'. Refute it at one input. -/
def chachaStreamsWrong : ChangeSpec := { name := "chachaStreams", fn := fun _ => fun
  | [d1, d2, d3] => { results := [.lit (.bool false)], args := [d1, d2, d3] }
  | _ => none }
def ChachaStreamsWrongFalsely : Prop := chachaStreamsRow.holds Tryd.pinned (OpenSpec.ofChange chachaStreamsWrong)

/- THE SECOND FORM. 'bulk': how many values and letters a reading holds, each counted each time it is reached (what is shared counts as often as it is met; a slice's spare places count too). A statement '..UptoSaid' is the law's where the arguments, and the package variables that the reading takes, are together of bulk at most 1048576: NARROWER than '..Said'. Prove '..Said' where nothing that the law and all that it calls make is longer than what came in: it says more and counts as full. Else prove '..UptoSaid'. A law counts once. -/
mutual
def uptoBulk {H : Type} : DataW H → Nat
  | .lit (.string bytes) => bytes.length + 1
  | .lit _ => 1
  | .nil => 1
  | .ptr d => uptoBulk d + 1
  | .slice elems spare => uptoBulkAll elems + uptoBulkAll spare + 1
  | .agg parts => uptoBulkAll parts + 1
  | .iface _ d => uptoBulk d + 1
  | .map entries => uptoBulkEntries entries + 1
  | .held _ => 1
def uptoBulkAll {H : Type} : List (DataW H) → Nat
  | [] => 0
  | d :: r => uptoBulk d + uptoBulkAll r
def uptoBulkEntries {H : Type} : List (Lit × DataW H) → Nat
  | [] => 0
  | x :: r => uptoBulkEntry x + uptoBulkEntries r
def uptoBulkEntry {H : Type} : Lit × DataW H → Nat
  | (.string bytes, d) => bytes.length + uptoBulk d + 1
  | (_, d) => uptoBulk d + 1
 end
def uptoSmall : (H : Type) → List (DataW H) → Bool := fun _ ds => decide (uptoBulkAll ds ≤ 1048576)
def OpenSpec.upto (s : _root_.Go.ChangeSpec) : _root_.Go.OpenSpec := { _root_.Go.OpenSpec.ofChange s with cond := some uptoSmall }

/-- 'ipsecgatelaw06.PayloadReturns', WHERE WHAT IT READS IS OF BULK AT MOST 1048576: true; the input reads as it did. -/
def payloadReturnsUptoRow : OpenClaim := { program := "ytnnpecfineanlaadoor", sum := "0281009d2e8c544eeb837cb760f9c211ab5d1f7fb72f39d624fcceb82a676eb7", func := "ipsecgate/ipsecgatelaw06.PayloadReturns", spec := "payloadReturns", unfollowed := true, recurses := true, named := ["ipsecgate/ipsecgatemake.Kinds"], plainKeys := false, apart := false, laid := [("ipsecgate/ipsecgatemake.Kinds", laid_ipsecgate_ipsecgatemake_Kinds)], narrowed := true }
def PayloadReturnsUptoSaid : Prop := payloadReturnsUptoRow.holds Tryd.pinned (OpenSpec.upto payloadReturnsSpec)

/-- 'ipsecgatelaw10.ChachaBlocks', WHERE WHAT IT READS IS OF BULK AT MOST 1048576: true; the input reads as it did. -/
def chachaBlocksUptoRow : OpenClaim := { program := "ytnnpecfineanlaadoor", sum := "0281009d2e8c544eeb837cb760f9c211ab5d1f7fb72f39d624fcceb82a676eb7", func := "ipsecgate/ipsecgatelaw10.ChachaBlocks", spec := "chachaBlocks", unfollowed := true, recurses := true, named := ["ipsecgate/chacha.quarters"], plainKeys := false, apart := false, laid := [("ipsecgate/chacha.quarters", laid_ipsecgate_chacha_quarters)], narrowed := true }
def ChachaBlocksUptoSaid : Prop := chachaBlocksUptoRow.holds Tryd.pinned (OpenSpec.upto chachaBlocksSpec)

/-- 'ipsecgatelaw10.ChachaTurns', WHERE WHAT IT READS IS OF BULK AT MOST 1048576: true; the input reads as it did. -/
def chachaTurnsUptoRow : OpenClaim := { program := "ytnnpecfineanlaadoor", sum := "0281009d2e8c544eeb837cb760f9c211ab5d1f7fb72f39d624fcceb82a676eb7", func := "ipsecgate/ipsecgatelaw10.ChachaTurns", spec := "chachaTurns", unfollowed := true, recurses := true, named := ["ipsecgate/chacha.quarters"], plainKeys := false, apart := false, laid := [("ipsecgate/chacha.quarters", laid_ipsecgate_chacha_quarters)], narrowed := true }
def ChachaTurnsUptoSaid : Prop := chachaTurnsUptoRow.holds Tryd.pinned (OpenSpec.upto chachaTurnsSpec)

/-- 'ipsecgatelaw10.ChachaStreams', WHERE WHAT IT READS IS OF BULK AT MOST 1048576: true; the input reads as it did. -/
def chachaStreamsUptoRow : OpenClaim := { program := "ytnnpecfineanlaadoor", sum := "0281009d2e8c544eeb837cb760f9c211ab5d1f7fb72f39d624fcceb82a676eb7", func := "ipsecgate/ipsecgatelaw10.ChachaStreams", spec := "chachaStreams", unfollowed := true, recurses := true, named := ["ipsecgate/chacha.quarters"], plainKeys := false, apart := false, laid := [("ipsecgate/chacha.quarters", laid_ipsecgate_chacha_quarters)], narrowed := true }
def ChachaStreamsUptoSaid : Prop := chachaStreamsUptoRow.holds Tryd.pinned (OpenSpec.upto chachaStreamsSpec)

end Rows
end Go.Proofs.YtnnpecfineanlaaDoor
