/-
  Package payload's comparison of proposals, of notifications and of lists of bytes: each says yes just where both read alike.
-/
import Derived.Test.YtnnbfhjbaagnkaaQPayEq2
namespace Go.Proofs.Ytnnbfhjbaagnkaa
open Go.RowKit
set_option linter.unusedVariables false

theorem below2 (w : World) (o o' : Obj) : Below w.heap.size w ((w.alloc o).alloc o') := ((Below.refl w.heap.size w).alloc (Nat.le_refl _) _).alloc (by simp) _

/-- A notification's four cells, its slices. -/
structure Nt where
  p : Int
  sp : Option Addr
  sn : Nat
  sc : Nat
  s : List Int
  t : Int
  dp : Option Addr
  dn : Nat
  dc : Nat
  d : List Int

/-- An element of a list of bytes: where its bytes lie. -/
structure Sb where
  p : Option Addr
  n : Nat
  c : Nat
  xs : List Int
def KSb : KindR Sb where
  e := 22
  k := 1
  cs x := [.slice x.p x.n x.c]
  len _ := rfl
  one x u hu := by
    simp at hu
    subst hu
    rfl
  pos := by decide
def DSb : ReadN Sb where
  ok w x := Byt w x.p x.n x.c x.xs
  keep h hk := h.keep hk

end Go.Proofs.Ytnnbfhjbaagnkaa
