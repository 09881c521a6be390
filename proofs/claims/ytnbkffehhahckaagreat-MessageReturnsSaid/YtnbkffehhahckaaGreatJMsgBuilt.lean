/-
  message.Build of a message that was made: at most 8220 bytes, and an error.
-/
import Derived.Test.YtnbkffehhahckaaGreatJMsgBuild
import Derived.Test.YtnbkffehhahckaaGreatJMsgRead
namespace Go.Proofs.YtnbkffehhahckaaGreat
open Go.RowKit
set_option linter.unusedVariables false
set_option linter.unusedSimpArgs false
def BuiltM (w : World) (e : Ending) (w' : World) : Prop := ∃ (p : Option Addr) (n c : Nat) (L : List Int) (E : Int), e = .returned (.tuple #[.slice p n c, .int .i64 E]) ∧ Bod w' w.heap.size p n c L ∧ n ≤ 8220 ∧ Below w.heap.size w w'
theorem BuiltM.no {w w' : World} {E : Int} (hb : Below w.heap.size w w') : BuiltM w (.returned (.tuple #[.slice none 0 0, .int .i64 E])) w' := ⟨none, 0, 0, [], E, rfl, ⟨Byt.nil _ _ _ (Nat.zero_le _), fun h => by omega⟩, by omega, hb⟩
theorem buildR_len (i r n x f m len : Int) : (buildR i r n x f m len).1.length ≤ 28 := by
  unfold buildR
  repeat' split
  all_goals simp [hdrL, be_len]
theorem hdr_put {w : World} {g : Nat} {i r n x f m : Int} (h : HdrIn w g 0 i r n x f m) (v : Int) : HdrIn (w.setCell ⟨g, 2, none⟩ (.int .i64 v)) g 0 i r v x f m := by
  obtain ⟨c0, c1, c2, c3, c4, c5, fr⟩ := h
  simp only [Nat.zero_add] at c0 c1 c2 c3 c4 c5
  exact ⟨by go_simp, by go_simp, by go_simp, by go_simp, by go_simp, by go_simp, fun j => by rw [World.frozen?_setCell]; exact fr j⟩
end Go.Proofs.YtnbkffehhahckaaGreat
