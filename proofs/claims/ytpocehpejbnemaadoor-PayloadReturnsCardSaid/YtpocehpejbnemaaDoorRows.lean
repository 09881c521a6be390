/-
  NARROWER THAN 'FOR EVERY INPUT', by the rows' own cells (each row's printed sentence says how): PayloadReturns: laid · AeadSeals: laid · AeadOpens: laid · AeadReturns: laid · AeadJoins: laid.
  DERIVED. THE GIVEN ROWS OF THIS SEAT. 5 by the template 'for every input the law returns true; each argument reads behind the call as it read before'; 0 by the template 'total and deterministic' (their statements: YtpocehpejbnemaaDoorTotals.lean).
  GIVEN WITH THE SEED: the statements are not yours to turn. If you find one false, say at which input.
  Laid BY PROGRAM, IN A SANDBOX (cutbox-rows.mjs): the forced cells as the released guide's own fill.sh prints them over the translation f6da4718d739a4d4… (all of the seat's roots in one cut). By AI agents, Wed Nov 11 2026. No macro, syntax, notation, axiom, sorry.
-/
import Derived.Test.YtpocehpejbnemaaDoorChecked
import GoSem.Claim
import GoSem.ClaimJoined
import GoSem.ClaimMapViews
import Derived.JoinedTies
import Derived.KernelRfl
namespace Go.Proofs.YtpocehpejbnemaaDoor
/- THE CELL 'sum', in the pinned program and in every row, IS THE sha256 OF THE DUMP (.gsa) THAT YtpocehpejbnemaaDoorProg.lean LOADS. Nothing in Lean hashes anything: it is a label: what it is worth is what the hold of that sum in a sandbox is worth. -/
noncomputable def Tryd.pinned : Pinned := { name := "ytpocehpejbnemaadoor", sum := "f6da4718d739a4d4af2be440ad2cea902d6e409bb25611bc3429eaf9f8a40ed1", checked := Tryd.checked }
namespace Rows
def none {H : Type} : Left H := { results := [], args := [] }

/- WHAT THE LISTED PACKAGE-LEVEL VARIABLES READ AS WHEN THE CALL BEGINS. Each datum BY PROGRAM (the guide's laid-datum.mjs) off the statement by which the dump's own 'gosem.cut.vars' lays the variable. In a bare row this is a premise. The card (YtpocehpejbnemaaDoorCards.lean) ties it to the program's text. -/
def laid_ipsecgate_ipsecgatemake_Kinds {H : Type} : DataW H := .agg [.lit (.int .i64 33), .lit (.int .i64 34), .lit (.int .i64 40), .lit (.int .i64 35), .lit (.int .i64 36), .lit (.int .i64 39), .lit (.int .i64 44), .lit (.int .i64 45), .lit (.int .i64 41), .lit (.int .i64 42), .lit (.int .i64 43), .lit (.int .i64 37)]
def laid_ipsecgate_chacha_quarters {H : Type} : DataW H := .agg [.agg [.lit (.int .i64 0), .lit (.int .i64 4), .lit (.int .i64 8), .lit (.int .i64 12)], .agg [.lit (.int .i64 1), .lit (.int .i64 5), .lit (.int .i64 9), .lit (.int .i64 13)], .agg [.lit (.int .i64 2), .lit (.int .i64 6), .lit (.int .i64 10), .lit (.int .i64 14)], .agg [.lit (.int .i64 3), .lit (.int .i64 7), .lit (.int .i64 11), .lit (.int .i64 15)], .agg [.lit (.int .i64 0), .lit (.int .i64 5), .lit (.int .i64 10), .lit (.int .i64 15)], .agg [.lit (.int .i64 1), .lit (.int .i64 6), .lit (.int .i64 11), .lit (.int .i64 12)], .agg [.lit (.int .i64 2), .lit (.int .i64 7), .lit (.int .i64 8), .lit (.int .i64 13)], .agg [.lit (.int .i64 3), .lit (.int .i64 4), .lit (.int .i64 9), .lit (.int .i64 14)]]

/-- 'ipsecgatelaw06.PayloadReturns': WHATEVER THE INPUT: true; the input reads as it did. -/
def payloadReturnsSpec : ChangeSpec := { name := "payloadReturns", fn := fun _ => fun
  | [d] => { results := [.lit (.bool true)], args := [d] }
  | _ => none }
def payloadReturnsRow : OpenClaim := { program := "ytpocehpejbnemaadoor", sum := "f6da4718d739a4d4af2be440ad2cea902d6e409bb25611bc3429eaf9f8a40ed1", func := "ipsecgate/ipsecgatelaw06.PayloadReturns", spec := "payloadReturns", unfollowed := true, recurses := true, named := ["ipsecgate/ipsecgatemake.Kinds"], plainKeys := false, apart := false, laid := [("ipsecgate/ipsecgatemake.Kinds", laid_ipsecgate_ipsecgatemake_Kinds)] }
def PayloadReturnsSaid : Prop := payloadReturnsRow.holds Tryd.pinned (OpenSpec.ofChange payloadReturnsSpec)

/-- ITS FALSE NEIGHBOUR: 'it returns false'. Refute it at one input. -/
def payloadReturnsWrong : ChangeSpec := { name := "payloadReturns", fn := fun _ => fun
  | [d] => { results := [.lit (.bool false)], args := [d] }
  | _ => none }
def PayloadReturnsWrongFalsely : Prop := payloadReturnsRow.holds Tryd.pinned (OpenSpec.ofChange payloadReturnsWrong)

/-- 'ipsecgatelaw12.AeadSeals': WHATEVER THE INPUT: true; the input reads as it did. -/
def aeadSealsSpec : ChangeSpec := { name := "aeadSeals", fn := fun _ => fun
  | [d1, d2, d3, d4, d5] => { results := [.lit (.bool true)], args := [d1, d2, d3, d4, d5] }
  | _ => none }
def aeadSealsRow : OpenClaim := { program := "ytpocehpejbnemaadoor", sum := "f6da4718d739a4d4af2be440ad2cea902d6e409bb25611bc3429eaf9f8a40ed1", func := "ipsecgate/ipsecgatelaw12.AeadSeals", spec := "aeadSeals", unfollowed := true, recurses := true, named := ["ipsecgate/chacha.quarters"], plainKeys := false, apart := false, laid := [("ipsecgate/chacha.quarters", laid_ipsecgate_chacha_quarters)] }
def AeadSealsSaid : Prop := aeadSealsRow.holds Tryd.pinned (OpenSpec.ofChange aeadSealsSpec)

/-- ITS FALSE NEIGHBOUR: 'it returns false'. Refute it at one input. -/
def aeadSealsWrong : ChangeSpec := { name := "aeadSeals", fn := fun _ => fun
  | [d1, d2, d3, d4, d5] => { results := [.lit (.bool false)], args := [d1, d2, d3, d4, d5] }
  | _ => none }
def AeadSealsWrongFalsely : Prop := aeadSealsRow.holds Tryd.pinned (OpenSpec.ofChange aeadSealsWrong)

/-- 'ipsecgatelaw12.AeadOpens': WHATEVER THE INPUT: true; the input reads as it did. -/
def aeadOpensSpec : ChangeSpec := { name := "aeadOpens", fn := fun _ => fun
  | [d1, d2, d3] => { results := [.lit (.bool true)], args := [d1, d2, d3] }
  | _ => none }
def aeadOpensRow : OpenClaim := { program := "ytpocehpejbnemaadoor", sum := "f6da4718d739a4d4af2be440ad2cea902d6e409bb25611bc3429eaf9f8a40ed1", func := "ipsecgate/ipsecgatelaw12.AeadOpens", spec := "aeadOpens", unfollowed := true, recurses := true, named := ["ipsecgate/chacha.quarters"], plainKeys := false, apart := false, laid := [("ipsecgate/chacha.quarters", laid_ipsecgate_chacha_quarters)] }
def AeadOpensSaid : Prop := aeadOpensRow.holds Tryd.pinned (OpenSpec.ofChange aeadOpensSpec)

/-- ITS FALSE NEIGHBOUR: 'it returns false'. Refute it at one input. -/
def aeadOpensWrong : ChangeSpec := { name := "aeadOpens", fn := fun _ => fun
  | [d1, d2, d3] => { results := [.lit (.bool false)], args := [d1, d2, d3] }
  | _ => none }
def AeadOpensWrongFalsely : Prop := aeadOpensRow.holds Tryd.pinned (OpenSpec.ofChange aeadOpensWrong)

/-- 'ipsecgatelaw12.AeadReturns': WHATEVER THE INPUT: true; the input reads as it did. -/
def aeadReturnsSpec : ChangeSpec := { name := "aeadReturns", fn := fun _ => fun
  | [d1, d2, d3, d4, d5] => { results := [.lit (.bool true)], args := [d1, d2, d3, d4, d5] }
  | _ => none }
def aeadReturnsRow : OpenClaim := { program := "ytpocehpejbnemaadoor", sum := "f6da4718d739a4d4af2be440ad2cea902d6e409bb25611bc3429eaf9f8a40ed1", func := "ipsecgate/ipsecgatelaw12.AeadReturns", spec := "aeadReturns", unfollowed := true, recurses := true, named := ["ipsecgate/chacha.quarters"], plainKeys := false, apart := false, laid := [("ipsecgate/chacha.quarters", laid_ipsecgate_chacha_quarters)] }
def AeadReturnsSaid : Prop := aeadReturnsRow.holds Tryd.pinned (OpenSpec.ofChange aeadReturnsSpec)

/-- ITS FALSE NEIGHBOUR: 'it returns false'. Refute it at one input. -/
def aeadReturnsWrong : ChangeSpec := { name := "aeadReturns", fn := fun _ => fun
  | [d1, d2, d3, d4, d5] => { results := [.lit (.bool false)], args := [d1, d2, d3, d4, d5] }
  | _ => none }
def AeadReturnsWrongFalsely : Prop := aeadReturnsRow.holds Tryd.pinned (OpenSpec.ofChange aeadReturnsWrong)

/-- 'ipsecgatelaw12.AeadJoins': WHATEVER THE INPUT: true; the input reads as it did. -/
def aeadJoinsSpec : ChangeSpec := { name := "aeadJoins", fn := fun _ => fun
  | [d1, d2, d3] => { results := [.lit (.bool true)], args := [d1, d2, d3] }
  | _ => none }
def aeadJoinsRow : OpenClaim := { program := "ytpocehpejbnemaadoor", sum := "f6da4718d739a4d4af2be440ad2cea902d6e409bb25611bc3429eaf9f8a40ed1", func := "ipsecgate/ipsecgatelaw12.AeadJoins", spec := "aeadJoins", unfollowed := true, recurses := true, named := ["ipsecgate/chacha.quarters"], plainKeys := false, apart := false, laid := [("ipsecgate/chacha.quarters", laid_ipsecgate_chacha_quarters)] }
def AeadJoinsSaid : Prop := aeadJoinsRow.holds Tryd.pinned (OpenSpec.ofChange aeadJoinsSpec)

/-- ITS FALSE NEIGHBOUR: 'it returns false'. Refute it at one input. -/
def aeadJoinsWrong : ChangeSpec := { name := "aeadJoins", fn := fun _ => fun
  | [d1, d2, d3] => { results := [.lit (.bool false)], args := [d1, d2, d3] }
  | _ => none }
def AeadJoinsWrongFalsely : Prop := aeadJoinsRow.holds Tryd.pinned (OpenSpec.ofChange aeadJoinsWrong)

/- THE SECOND FORM. 'bulk': how many values and letters a reading holds, each counted each time it is reached (what is shared counts as often as it is met; a slice's spare places count too). A statement '..UptoSaid' is the law's where the arguments, and the package variables that the reading takes, are together of bulk at most 1048576: NARROWER than '..Said'. Prove '..Said' where nothing that the law and all that it calls make is longer than what came in: it says more and counts as full. Else prove '..UptoSaid'. A law counts once. -/
mutual
def uptoBulk {H : Type} : DataW H → Nat
  | .lit (.string bytes) => bytes.length + 1
  | .lit _ => 1
  | .nil => 1
  | .ptr d => uptoBulk d + 1
  | .slice elems spare => uptoBulkAll elems + uptoBulkAll spare + 1
  | .agg parts => uptoBulkAll parts + 1
  | .iface _ d => uptoBulk d + 1
  | .map entries => uptoBulkEntries entries + 1
  | .held _ => 1
def uptoBulkAll {H : Type} : List (DataW H) → Nat
  | [] => 0
  | d :: r => uptoBulk d + uptoBulkAll r
def uptoBulkEntries {H : Type} : List (Lit × DataW H) → Nat
  | [] => 0
  | x :: r => uptoBulkEntry x + uptoBulkEntries r
def uptoBulkEntry {H : Type} : Lit × DataW H → Nat
  | (.string bytes, d) => bytes.length + uptoBulk d + 1
  | (_, d) => uptoBulk d + 1
 end
def uptoSmall : (H : Type) → List (DataW H) → Bool := fun _ ds => decide (uptoBulkAll ds ≤ 1048576)
def OpenSpec.upto (s : _root_.Go.ChangeSpec) : _root_.Go.OpenSpec := { _root_.Go.OpenSpec.ofChange s with cond := some uptoSmall }

/-- 'ipsecgatelaw06.PayloadReturns', WHERE WHAT IT READS IS OF BULK AT MOST 1048576: true; the input reads as it did. -/
def payloadReturnsUptoRow : OpenClaim := { program := "ytpocehpejbnemaadoor", sum := "f6da4718d739a4d4af2be440ad2cea902d6e409bb25611bc3429eaf9f8a40ed1", func := "ipsecgate/ipsecgatelaw06.PayloadReturns", spec := "payloadReturns", unfollowed := true, recurses := true, named := ["ipsecgate/ipsecgatemake.Kinds"], plainKeys := false, apart := false, laid := [("ipsecgate/ipsecgatemake.Kinds", laid_ipsecgate_ipsecgatemake_Kinds)], narrowed := true }
def PayloadReturnsUptoSaid : Prop := payloadReturnsUptoRow.holds Tryd.pinned (OpenSpec.upto payloadReturnsSpec)

/-- 'ipsecgatelaw12.AeadSeals', WHERE WHAT IT READS IS OF BULK AT MOST 1048576: true; the input reads as it did. -/
def aeadSealsUptoRow : OpenClaim := { program := "ytpocehpejbnemaadoor", sum := "f6da4718d739a4d4af2be440ad2cea902d6e409bb25611bc3429eaf9f8a40ed1", func := "ipsecgate/ipsecgatelaw12.AeadSeals", spec := "aeadSeals", unfollowed := true, recurses := true, named := ["ipsecgate/chacha.quarters"], plainKeys := false, apart := false, laid := [("ipsecgate/chacha.quarters", laid_ipsecgate_chacha_quarters)], narrowed := true }
def AeadSealsUptoSaid : Prop := aeadSealsUptoRow.holds Tryd.pinned (OpenSpec.upto aeadSealsSpec)

/-- 'ipsecgatelaw12.AeadOpens', WHERE WHAT IT READS IS OF BULK AT MOST 1048576: true; the input reads as it did. -/
def aeadOpensUptoRow : OpenClaim := { program := "ytpocehpejbnemaadoor", sum := "f6da4718d739a4d4af2be440ad2cea902d6e409bb25611bc3429eaf9f8a40ed1", func := "ipsecgate/ipsecgatelaw12.AeadOpens", spec := "aeadOpens", unfollowed := true, recurses := true, named := ["ipsecgate/chacha.quarters"], plainKeys := false, apart := false, laid := [("ipsecgate/chacha.quarters", laid_ipsecgate_chacha_quarters)], narrowed := true }
def AeadOpensUptoSaid : Prop := aeadOpensUptoRow.holds Tryd.pinned (OpenSpec.upto aeadOpensSpec)

/-- 'ipsecgatelaw12.AeadReturns', WHERE WHAT IT READS IS OF BULK AT MOST 1048576: true; the input reads as it did. -/
def aeadReturnsUptoRow : OpenClaim := { program := "ytpocehpejbnemaadoor", sum := "f6da4718d739a4d4af2be440ad2cea902d6e409bb25611bc3429eaf9f8a40ed1", func := "ipsecgate/ipsecgatelaw12.AeadReturns", spec := "aeadReturns", unfollowed := true, recurses := true, named := ["ipsecgate/chacha.quarters"], plainKeys := false, apart := false, laid := [("ipsecgate/chacha.quarters", laid_ipsecgate_chacha_quarters)], narrowed := true }
def AeadReturnsUptoSaid : Prop := aeadReturnsUptoRow.holds Tryd.pinned (OpenSpec.upto aeadReturnsSpec)

/-- 'ipsecgatelaw12.AeadJoins', WHERE WHAT IT READS IS OF BULK AT MOST 1048576: true; the input reads as it did. -/
def aeadJoinsUptoRow : OpenClaim := { program := "ytpocehpejbnemaadoor", sum := "f6da4718d739a4d4af2be440ad2cea902d6e409bb25611bc3429eaf9f8a40ed1", func := "ipsecgate/ipsecgatelaw12.AeadJoins", spec := "aeadJoins", unfollowed := true, recurses := true, named := ["ipsecgate/chacha.quarters"], plainKeys := false, apart := false, laid := [("ipsecgate/chacha.quarters", laid_ipsecgate_chacha_quarters)], narrowed := true }
def AeadJoinsUptoSaid : Prop := aeadJoinsUptoRow.holds Tryd.pinned (OpenSpec.upto aeadJoinsSpec)

end Rows
end Go.Proofs.YtpocehpejbnemaaDoor
