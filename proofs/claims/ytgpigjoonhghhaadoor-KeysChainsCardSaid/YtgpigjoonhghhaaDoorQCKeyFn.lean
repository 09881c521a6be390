/-
  Which nonces have a right length, keys' and the document's; three parts to be joined.
-/
import Derived.Test.YtgpigjoonhghhaaDoorQCZ1
import Derived.Test.YtgpigjoonhghhaaDoorQCPrfHmac
import Derived.Test.YtgpigjoonhghhaaDoorQCRPrfHmac
import Derived.Test.YtgpigjoonhghhaaDoorQCIs
namespace Go.Proofs.YtgpigjoonhghhaaDoor
open Go.RowKit
set_option linter.unusedVariables false
set_option maxHeartbeats 800000 in
theorem isn_any (p : Option Addr) (n c : Nat) (w : World) (hn : n ≤ 9223372036854775807) :
    Calls Tryd.prog 52 #[.slice p n c] w fun e w' => e = .returned (.bool (decide (16 ≤ n) && decide (n ≤ 256))) ∧ w = w' := by
  by_cases h1 : (16 : Int) ≤ n
  · have e1 : decide (16 ≤ n) = true := decide_eq_true (by omega)
    rw [e1]
    by_cases h2 : (n : Int) ≤ 256
    · have e2 : decide (n ≤ 256) = true := decide_eq_true (by omega)
      rw [e2]
      go_enter Tryd.func52, Tryd.ntmps52
      go_wp2
      go_ret
      exact ⟨rfl, rfl⟩
    · have e2 : decide (n ≤ 256) = false := decide_eq_false (by omega)
      rw [e2]
      go_enter Tryd.func52, Tryd.ntmps52
      go_wp2
      go_ret
      exact ⟨rfl, rfl⟩
  · have e1 : decide (16 ≤ n) = false := decide_eq_false (by omega)
    rw [e1]
    go_enter Tryd.func52, Tryd.ntmps52
    go_wp2
    go_ret
    exact ⟨rfl, rfl⟩
set_option maxHeartbeats 800000 in
theorem are_any (p q : Option Addr) (n c m d : Nat) (w : World) (hn : n ≤ 9223372036854775807) (hm : m ≤ 9223372036854775807) :
    Calls Tryd.prog 33 #[.slice p n c, .slice q m d] w fun e w' => e = .returned (.bool (okN n m)) ∧ w = w' := by
  have H1 := hidden (isn_any p n c w hn)
  have H2 := hidden (isn_any q m d w hm)
  unfold okN
  generalize (decide (16 ≤ n) && decide (n ≤ 256)) = x at *
  generalize (decide (16 ≤ m) && decide (m ≤ 256)) = y at *
  go_enter Tryd.func33, Tryd.ntmps33
  cases x with
  | false =>
    go_wp2_with (first
      | (go_at_call 52; (with_reducible refine (H1.out).mono ?_); rintro e w2 ⟨rfl, rfl⟩)
      | fail)
    go_ret
    exact ⟨rfl, rfl⟩
  | true =>
    go_wp2_with (first
      | (go_at_call 52; (with_reducible refine (H1.out).mono ?_); rintro e w2 ⟨rfl, rfl⟩)
      | (go_at_call 52; (with_reducible refine (H2.out).mono ?_); rintro e w2 ⟨rfl, rfl⟩)
      | fail)
    go_ret
    exact ⟨rfl, rfl⟩
theorem threeK (w : World) (p0 p1 p2 : Option Addr) (n0 n1 n2 c0 c1 c2 : Nat) (x0 x1 x2 : List Int) (T : TypeId) (h0 : Byt w p0 n0 c0 x0) (h1 : Byt w p1 n1 c1 x1) (h2 : Byt w p2 n2 c2 x2) :
    Parts (w.alloc (.cells #[.slice p0 n0 c0, .slice p1 n1 c1, .slice p2 n2 c2] T)) (some ⟨w.heap.size, 0, none⟩) 3 3 [⟨p0, n0, c0, x0⟩, ⟨p1, n1, c1, x1⟩, ⟨p2, n2, c2, x2⟩] :=
  ⟨rfl, Nat.le_refl _, by decide, fun _ => ⟨w.heap.size, rfl, fun j hj => by
    have : j = 0 ∨ j = 1 ∨ j = 2 := by simp at hj; omega
    rcases this with rfl | rfl | rfl <;> go_simp⟩, fun x hx => by
    simp at hx
    rcases hx with rfl | rfl | rfl
    · exact h0.alloc _
    · exact h1.alloc _
    · exact h2.alloc _⟩
def ToV (R : List Int) (w : World) (e : Ending) (w' : World) : Prop := ∃ v, e = .returned v ∧ Own w' w.heap.size 5 v R ∧ Below w.heap.size w w'
theorem catK (w : World) (p0 p1 p2 : Option Addr) (n0 n1 n2 c0 c1 c2 : Nat) (x0 x1 x2 : List Int) (h0 : Byt w p0 n0 c0 x0) (h1 : Byt w p1 n1 c1 x1) (h2 : Byt w p2 n2 c2 x2) (hs : n0 + (n1 + n2) ≤ 140737488355328) :
    Calls Tryd.prog 34 #[.slice (some ⟨w.heap.size, 0, none⟩) 3 3] (w.alloc (.cells #[.slice p0 n0 c0, .slice p1 n1 c1, .slice p2 n2 c2] 22)) (ToV (x0 ++ (x1 ++ x2)) w) := by
  have := concat_any (some ⟨w.heap.size, 0, none⟩) 3 3 _ _ (threeK w p0 p1 p2 n0 n1 n2 c0 c1 c2 x0 x1 x2 22 h0 h1 h2) (by simp [sizeOf']; omega)
  simp only [bytesOf, List.flatMap_cons, List.flatMap_nil, List.append_nil, World.size_alloc] at this
  refine this.mono ?_
  rintro e w' ⟨v, he, ho, hb⟩
  exact ⟨v, he, ho.mono (by omega), ((Below.refl w.heap.size w).alloc (Nat.le_refl _) _).trans (hb.mono (by omega))⟩
def ToE (R : List Int) (E : Int) (w : World) (e : Ending) (w' : World) : Prop :=
  ∃ p' N c', e = .returned (.tuple #[.slice p' N c', .int .i64 E]) ∧ Byt w' p' N c' R ∧ Below w.heap.size w w'
theorem Own.toE {w w' : World} {v : Value} {R : List Int} {E : Int} (h : Own w' w.heap.size 5 v R) (hr : ∀ x ∈ R, 0 ≤ x ∧ x ≤ 255) (hb : Below w.heap.size w w') : ToE R E w (.returned (.tuple #[v, .int .i64 E])) w' := by
  obtain ⟨p, c, rfl, hy⟩ := h.byt hr
  exact ⟨p, _, c, rfl, hy, hb⟩
theorem nilE (w : World) (E : Int) : ToE [] E w (.returned (.tuple #[.slice none 0 0, .int .i64 E])) w := ⟨none, 0, 0, rfl, Byt.nil _ _ _ (by decide), Below.refl _ _⟩
end Go.Proofs.YtgpigjoonhghhaaDoor
