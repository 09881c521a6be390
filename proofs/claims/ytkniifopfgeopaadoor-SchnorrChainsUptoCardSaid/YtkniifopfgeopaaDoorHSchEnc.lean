/-
  schnorr.Encode of certificates that are valid.
-/
import Derived.Test.YtkniifopfgeopaaDoorHSchChain
namespace Go.Proofs.YtkniifopfgeopaaDoor
open Go.RowKit
set_option linter.unusedVariables false

def encL (L : List Ct) : List Int := L.flatMap fun x => bdL x ++ x.g
theorem encL_take (L : List Ct) (j : Nat) (hj : j < L.length) : encL (L.take (j + 1)) = encL (L.take j) ++ (bdL (L.getD j zc) ++ (L.getD j zc).g) := by
  unfold encL
  rw [List.take_add_one, List.flatMap_append, List.getElem?_eq_getElem hj, List.getD_eq_getElem?_getD, List.getElem?_eq_getElem hj]
  simp
end Go.Proofs.YtkniifopfgeopaaDoor
