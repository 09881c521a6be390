/-
  No cell of these rows narrows 'for every input' (looked for: loops, veiled, ifaces, maps, wideKeys, modest, calm, conditions, laid).
  DERIVED. THE GIVEN ROWS OF THIS SEAT. 4 by the template 'for every input the law returns true; each argument reads behind the call as it read before'; 0 by the template 'total and deterministic' (their statements: YtnbpangegegccaaTotals.lean).
  GIVEN WITH THE SEED: the statements are not yours to turn. If you find one false, say at which input.
  Laid BY PROGRAM, IN A SANDBOX (cutbox-rows.mjs): the forced cells as the released guide's own fill.sh prints them over the translation b820ef6bd2e132b1… (all of the seat's roots in one cut). By AI agents, Wed Nov 11 2026. No macro, syntax, notation, axiom, sorry.
-/
import Derived.Test.YtnbpangegegccaaChecked
import GoSem.Claim
import GoSem.ClaimJoined
import GoSem.ClaimMapViews
import Derived.JoinedTies
import Derived.KernelRfl
namespace Go.Proofs.Ytnbpangegegccaa
/- THE CELL 'sum', in the pinned program and in every row, IS THE sha256 OF THE DUMP (.gsa) THAT YtnbpangegegccaaProg.lean LOADS. Nothing in Lean hashes anything: it is a label: what it is worth is what the hold of that sum in a sandbox is worth. -/
noncomputable def Try.pinned : Pinned := { name := "ytnbpangegegccaa", sum := "b820ef6bd2e132b12cda78f5327011dcbd5e9271faa3302f1f99eec60c433716", checked := Try.checked }
namespace Rows
def none {H : Type} : Left H := { results := [], args := [] }

/-- 'ipsecgatelaw11.Poly1305Sums': WHATEVER THE INPUT: true; the input reads as it did. -/
def poly1305SumsSpec : ChangeSpec := { name := "poly1305Sums", fn := fun _ => fun
  | [d1, d2, d3, d4] => { results := [.lit (.bool true)], args := [d1, d2, d3, d4] }
  | _ => none }
def poly1305SumsRow : OpenClaim := { program := "ytnbpangegegccaa", sum := "b820ef6bd2e132b12cda78f5327011dcbd5e9271faa3302f1f99eec60c433716", func := "ipsecgate/ipsecgatelaw11.Poly1305Sums", spec := "poly1305Sums", unfollowed := true, recurses := true, apart := false }
def Poly1305SumsSaid : Prop := poly1305SumsRow.holds Try.pinned (OpenSpec.ofChange poly1305SumsSpec)

/-- ITS FALSE NEIGHBOUR: 'it returns false'. Refute it at one input. -/
def poly1305SumsWrong : ChangeSpec := { name := "poly1305Sums", fn := fun _ => fun
  | [d1, d2, d3, d4] => { results := [.lit (.bool false)], args := [d1, d2, d3, d4] }
  | _ => none }
def Poly1305SumsWrongFalsely : Prop := poly1305SumsRow.holds Try.pinned (OpenSpec.ofChange poly1305SumsWrong)

/-- 'ipsecgatelaw11.Poly1305Zero': WHATEVER THE INPUT: true; the input reads as it did. -/
def poly1305ZeroSpec : ChangeSpec := { name := "poly1305Zero", fn := fun _ => fun
  | [d1, d2] => { results := [.lit (.bool true)], args := [d1, d2] }
  | _ => none }
def poly1305ZeroRow : OpenClaim := { program := "ytnbpangegegccaa", sum := "b820ef6bd2e132b12cda78f5327011dcbd5e9271faa3302f1f99eec60c433716", func := "ipsecgate/ipsecgatelaw11.Poly1305Zero", spec := "poly1305Zero", unfollowed := true, recurses := true, apart := false }
def Poly1305ZeroSaid : Prop := poly1305ZeroRow.holds Try.pinned (OpenSpec.ofChange poly1305ZeroSpec)

/-- ITS FALSE NEIGHBOUR: 'it returns false'. Refute it at one input. -/
def poly1305ZeroWrong : ChangeSpec := { name := "poly1305Zero", fn := fun _ => fun
  | [d1, d2] => { results := [.lit (.bool false)], args := [d1, d2] }
  | _ => none }
def Poly1305ZeroWrongFalsely : Prop := poly1305ZeroRow.holds Try.pinned (OpenSpec.ofChange poly1305ZeroWrong)

/-- 'ipsecgatelaw11.Poly1305One': WHATEVER THE INPUT: true; the input reads as it did. -/
def poly1305OneSpec : ChangeSpec := { name := "poly1305One", fn := fun _ => fun
  | [d1, d2] => { results := [.lit (.bool true)], args := [d1, d2] }
  | _ => none }
def poly1305OneRow : OpenClaim := { program := "ytnbpangegegccaa", sum := "b820ef6bd2e132b12cda78f5327011dcbd5e9271faa3302f1f99eec60c433716", func := "ipsecgate/ipsecgatelaw11.Poly1305One", spec := "poly1305One", unfollowed := true, recurses := true, apart := false }
def Poly1305OneSaid : Prop := poly1305OneRow.holds Try.pinned (OpenSpec.ofChange poly1305OneSpec)

/-- ITS FALSE NEIGHBOUR: 'it returns false'. Refute it at one input. -/
def poly1305OneWrong : ChangeSpec := { name := "poly1305One", fn := fun _ => fun
  | [d1, d2] => { results := [.lit (.bool false)], args := [d1, d2] }
  | _ => none }
def Poly1305OneWrongFalsely : Prop := poly1305OneRow.holds Try.pinned (OpenSpec.ofChange poly1305OneWrong)

/-- 'ipsecgatelaw11.Poly1305Adds': WHATEVER THE INPUT: true; the input reads as it did. -/
def poly1305AddsSpec : ChangeSpec := { name := "poly1305Adds", fn := fun _ => fun
  | [d1, d2, d3] => { results := [.lit (.bool true)], args := [d1, d2, d3] }
  | _ => none }
def poly1305AddsRow : OpenClaim := { program := "ytnbpangegegccaa", sum := "b820ef6bd2e132b12cda78f5327011dcbd5e9271faa3302f1f99eec60c433716", func := "ipsecgate/ipsecgatelaw11.Poly1305Adds", spec := "poly1305Adds", unfollowed := true, recurses := true, apart := false }
def Poly1305AddsSaid : Prop := poly1305AddsRow.holds Try.pinned (OpenSpec.ofChange poly1305AddsSpec)

/-- ITS FALSE NEIGHBOUR: 'it returns false'. Refute it at one input. -/
def poly1305AddsWrong : ChangeSpec := { name := "poly1305Adds", fn := fun _ => fun
  | [d1, d2, d3] => { results := [.lit (.bool false)], args := [d1, d2, d3] }
  | _ => none }
def Poly1305AddsWrongFalsely : Prop := poly1305AddsRow.holds Try.pinned (OpenSpec.ofChange poly1305AddsWrong)

/- THE SECOND FORM. 'bulk': how many values and letters a reading holds, each counted each time it is reached (what is shared counts as often as it is met; a slice's spare places count too). A statement '..UptoSaid' is the law's where the arguments, and the package variables that the reading takes, are together of bulk at most 1048576: NARROWER than '..Said'. Prove '..Said' where nothing that the law and all that it calls make is longer than what came in: it says more and counts as full. Else prove '..UptoSaid'. A law counts once. -/
mutual
def uptoBulk {H : Type} : DataW H → Nat
  | .lit (.string bytes) => bytes.length + 1
  | .lit _ => 1
  | .nil => 1
  | .ptr d => uptoBulk d + 1
  | .slice elems spare => uptoBulkAll elems + uptoBulkAll spare + 1
  | .agg parts => uptoBulkAll parts + 1
  | .iface _ d => uptoBulk d + 1
  | .map entries => uptoBulkEntries entries + 1
  | .held _ => 1
def uptoBulkAll {H : Type} : List (DataW H) → Nat
  | [] => 0
  | d :: r => uptoBulk d + uptoBulkAll r
def uptoBulkEntries {H : Type} : List (Lit × DataW H) → Nat
  | [] => 0
  | x :: r => uptoBulkEntry x + uptoBulkEntries r
def uptoBulkEntry {H : Type} : Lit × DataW H → Nat
  | (.string bytes, d) => bytes.length + uptoBulk d + 1
  | (_, d) => uptoBulk d + 1
 end
def uptoSmall : (H : Type) → List (DataW H) → Bool := fun _ ds => decide (uptoBulkAll ds ≤ 1048576)
def OpenSpec.upto (s : _root_.Go.ChangeSpec) : _root_.Go.OpenSpec := { _root_.Go.OpenSpec.ofChange s with cond := some uptoSmall }

/-- 'ipsecgatelaw11.Poly1305Sums', WHERE WHAT IT READS IS OF BULK AT MOST 1048576: true; the input reads as it did. -/
def poly1305SumsUptoRow : OpenClaim := { program := "ytnbpangegegccaa", sum := "b820ef6bd2e132b12cda78f5327011dcbd5e9271faa3302f1f99eec60c433716", func := "ipsecgate/ipsecgatelaw11.Poly1305Sums", spec := "poly1305Sums", unfollowed := true, recurses := true, apart := false, narrowed := true }
def Poly1305SumsUptoSaid : Prop := poly1305SumsUptoRow.holds Try.pinned (OpenSpec.upto poly1305SumsSpec)

/-- 'ipsecgatelaw11.Poly1305Zero', WHERE WHAT IT READS IS OF BULK AT MOST 1048576: true; the input reads as it did. -/
def poly1305ZeroUptoRow : OpenClaim := { program := "ytnbpangegegccaa", sum := "b820ef6bd2e132b12cda78f5327011dcbd5e9271faa3302f1f99eec60c433716", func := "ipsecgate/ipsecgatelaw11.Poly1305Zero", spec := "poly1305Zero", unfollowed := true, recurses := true, apart := false, narrowed := true }
def Poly1305ZeroUptoSaid : Prop := poly1305ZeroUptoRow.holds Try.pinned (OpenSpec.upto poly1305ZeroSpec)

/-- 'ipsecgatelaw11.Poly1305One', WHERE WHAT IT READS IS OF BULK AT MOST 1048576: true; the input reads as it did. -/
def poly1305OneUptoRow : OpenClaim := { program := "ytnbpangegegccaa", sum := "b820ef6bd2e132b12cda78f5327011dcbd5e9271faa3302f1f99eec60c433716", func := "ipsecgate/ipsecgatelaw11.Poly1305One", spec := "poly1305One", unfollowed := true, recurses := true, apart := false, narrowed := true }
def Poly1305OneUptoSaid : Prop := poly1305OneUptoRow.holds Try.pinned (OpenSpec.upto poly1305OneSpec)

/-- 'ipsecgatelaw11.Poly1305Adds', WHERE WHAT IT READS IS OF BULK AT MOST 1048576: true; the input reads as it did. -/
def poly1305AddsUptoRow : OpenClaim := { program := "ytnbpangegegccaa", sum := "b820ef6bd2e132b12cda78f5327011dcbd5e9271faa3302f1f99eec60c433716", func := "ipsecgate/ipsecgatelaw11.Poly1305Adds", spec := "poly1305Adds", unfollowed := true, recurses := true, apart := false, narrowed := true }
def Poly1305AddsUptoSaid : Prop := poly1305AddsUptoRow.holds Try.pinned (OpenSpec.upto poly1305AddsSpec)

end Rows
end Go.Proofs.Ytnbpangegegccaa
