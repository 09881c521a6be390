/-
  Package payload's comparison of proposals, of notifications and of lists of bytes: each says yes just where both read alike.
-/
import Derived.Test.YtbpmanbpmlkmnaaGreatDoorMPayEq2
import Derived.Test.YtbpmanbpmlkmnaaGreatDoorMZ5
namespace Go.Proofs.YtbpmanbpmlkmnaaGreatDoor
open Go.RowKit
set_option linter.unusedVariables false

theorem below2 (w : World) (o o' : Obj) : Below w.heap.size w ((w.alloc o).alloc o') := ((Below.refl w.heap.size w).alloc (Nat.le_refl _) _).alloc (by simp) _

/-- A notification's four cells, its slices. -/
structure Nt where
  p : Int
  sp : Option Addr
  sn : Nat
  sc : Nat
  s : List Int
  t : Int
  dp : Option Addr
  dn : Nat
  dc : Nat
  d : List Int

end Go.Proofs.YtbpmanbpmlkmnaaGreatDoor
