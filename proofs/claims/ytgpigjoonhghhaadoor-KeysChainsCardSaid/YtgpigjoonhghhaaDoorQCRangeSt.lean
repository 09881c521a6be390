/-
  A range over a function whose function keeps a state of its own in one block, whatever the program: the statement's law, where the body always goes on.
-/
import Derived.RangeFuncNested
import Derived.RangeFuncBound
import Derived.RangeFuncCalls
import Derived.RangeFuncLeaves
import Derived.Shelf.Abstract
import Derived.WalkKit
namespace Go.Proofs.YtgpigjoonhghhaaDoor
open Go.RowKit Go.Shelf
set_option linter.unusedVariables false
def SeqSt {α : Type} (F : Fence) (n : Nat) (P : Program) (gf : Nat) (bnd : Array Value) (encs : α → Array Value) (R B N : Nat) (S : α → World → Prop) (T : List α → World → Prop) (w : World) : Prop :=
  ∀ (l : Nat) (J : List α → World → Prop) (W : World), Below w.heap.size w W → (∀ pre U U', J pre U → U.grownBy U' (some R) → J pre U') →
    (∀ pre x U, J pre U → S x U → pre.length < N → YieldAt F (n - 1) P l (encs x) U fun e U' => e = .returned (.bool true) ∧ J (pre ++ [x]) U' ∧ Below B U U') → J [] W →
    CallsIn F n P gf (bnd ++ #[.func (.yield l) #[] #[]]) W fun e W' => (∃ v, e = .returned v) ∧ ∃ xs, T xs W' ∧ J xs W'
def AbidesR {α : Type} (R Bd : Nat) (I : α → World → Prop) : Prop :=
  ∀ s U U' row, I s U → U.grownBy U' row → (∀ r, row = some r → r = R ∨ Bd ≤ r ∧ ∃ o : Obj, U.heap[r]? = some o ∧ o.isCells = false) → I s U'
def AbidesN {α : Type} (Bd : Nat) (I : α → World → Prop) : Prop :=
  ∀ s U U' row, I s U → U.grownBy U' row → (∀ r, row = some r → Bd ≤ r ∧ ∃ o : Obj, U.heap[r]? = some o ∧ o.isCells = false) → I s U'
theorem AbidesR.n {α : Type} {R Bd : Nat} {I : α → World → Prop} (h : AbidesR R Bd I) : AbidesN Bd I := fun s U U' row hs hg hr => h s U U' row hs hg (fun r e => Or.inr (hr r e))
theorem AbidesN.alloc {α : Type} {Bd : Nat} {I : α → World → Prop} (h : AbidesN Bd I) {s : α} {U : World} (o : Obj) (hs : I s U) : I s (U.alloc o) := h s U _ none hs (World.grownBy_alloc U o none) (fun r e => by cases e)
theorem AbidesN.put {α : Type} {Bd : Nat} {I : α → World → Prop} (h : AbidesN Bd I) {s : α} {U : World} {l : Nat} {o : Obj} (o' : Obj) (hs : I s U) (hB : Bd ≤ l) (hl : U.heap[l]? = some o) (ho : o.isCells = false) : I s (U.putObj l o') :=
  h s U _ (some l) hs (grownBy_putObj' U l o') (fun r e => by cases e; exact ⟨hB, o, hl, ho⟩)
def roundSt {α : Type} (I : List α → World → Prop) (B : Nat) (xs : List α) (W : World) : Exit → Act → World → Prop
  | .normal, _, W' => KeepsOthers W W' ∧ Below B W W' ∧ I xs W'
  | _, _, _ => False
variable {F : Fence} {n : Nat} {P : Program}
theorem below_put {B : Nat} (W : World) (l : Nat) (o : Obj) (h : B ≤ l) (hB : B ≤ W.heap.size) : Below B W (W.putObj l o) :=
  (Below.refl B W).grown (grownBy_putObj' W l o) hB (fun k e => by cases e; exact h)
end Go.Proofs.YtgpigjoonhghhaaDoor
