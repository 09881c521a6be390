/-
  schnorr.Decode of certificates that were written.
-/
import Derived.Test.YtkniifopfgeopaaDoorHSchRead
namespace Go.Proofs.YtkniifopfgeopaaDoor
open Go.RowKit
set_option linter.unusedVariables false

/-- What a certificate says, wherever its signature lies. -/
def Ct.z (x : Ct) : Ct := ⟨x.s, x.k, x.f, x.t, x.a, none, 0, 0, x.g⟩
/-- What Decode returns. -/
def DecTo (L : List Ct) (w : World) (e : Ending) (w' : World) : Prop :=
  ∃ v ls, e = .returned (.tuple #[v, .int .i64 0]) ∧ RowG KCt NCt w' w.heap.size v ls ∧ ls.map Ct.z = L.map Ct.z ∧ Below w.heap.size w w'
theorem encL_cons (x : Ct) (L : List Ct) : encL (x :: L) = bdL x ++ (x.g ++ encL L) := by
  unfold encL
  rw [List.flatMap_cons, List.append_assoc]
end Go.Proofs.YtkniifopfgeopaaDoor
