/-
  What the laws of chapter 16 use: a drawn nonce; the comparison of two lists of keys; the contracts told for both sides.
-/
import Derived.Test.YtgpigjoonhghhaaDoorQCKeyAw
import Derived.Test.YtgpigjoonhghhaaDoorQCKeyDer
import Derived.Test.YtgpigjoonhghhaaDoorQCRKeyDer
import Derived.Test.YtgpigjoonhghhaaDoorQCKeyCh
import Derived.Test.YtgpigjoonhghhaaDoorQCRKeyCh
import Derived.Test.YtgpigjoonhghhaaDoorQCZ4
import Derived.Test.YtgpigjoonhghhaaDoorQCZ1
namespace Go.Proofs.YtgpigjoonhghhaaDoor
open Go.RowKit
set_option linter.unusedVariables false
theorem equal_likeK (p q : Option Addr) (n c m d : Nat) (L : List Int) (W : World) (h : Byt W p n c L) (k : Byt W q m d L) :
    Calls Tryd.prog 12 #[.slice p n c, .slice q m d] W fun e w' => e = .returned (.bool true) ∧ Below W.heap.size W w' := by
  have := requal_any p q n c m d L L W h k
  rw [show decide (L = L) = true from decide_eq_true rfl] at this
  refine this.mono ?_
  rintro e w' ⟨rfl, r, rfl⟩
  exact ⟨rfl, below_drewN r⟩
structure Rd5 (w : World) (p0 p1 p2 p3 p4 : Option Addr) (n0 n1 n2 n3 n4 c0 c1 c2 c3 c4 : Nat) (L : Nat → List Int) : Prop where
  y0 : Byt w p0 n0 c0 (L 0)
  y1 : Byt w p1 n1 c1 (L 1)
  y2 : Byt w p2 n2 c2 (L 2)
  y3 : Byt w p3 n3 c3 (L 3)
  y4 : Byt w p4 n4 c4 (L 4)
theorem Rd5.below {w w' : World} {p0 p1 p2 p3 p4 : Option Addr} {n0 n1 n2 n3 n4 c0 c1 c2 c3 c4 : Nat} {L : Nat → List Int} (h : Rd5 w p0 p1 p2 p3 p4 n0 n1 n2 n3 n4 c0 c1 c2 c3 c4 L) (hb : Below w.heap.size w w') : Rd5 w' p0 p1 p2 p3 p4 n0 n1 n2 n3 n4 c0 c1 c2 c3 c4 L :=
  ⟨h.y0.below hb, h.y1.below hb, h.y2.below hb, h.y3.below hb, h.y4.below hb⟩
end Go.Proofs.YtgpigjoonhghhaaDoor
