/-
  Bytes that lie in a block of bytes of the call's own: they stay while rows of other things, or blocks of before, are written.
-/
import Derived.Test.YtilnbmlbahflkaaRows
import Derived.Test.YtilnbmlbahflkaaMGrow
import Derived.Test.YtilnbmlbahflkaaMInfoB
namespace Go.Proofs.Ytilnbmlbahflkaa
open Go.RowKit
set_option linter.unusedVariables false

/-- The slice reads as the bytes, and where there is one, it lies at block base or beyond, in a block of bytes. -/
structure Bod (w : World) (base : Nat) (p : Option Addr) (n c : Nat) (xs : List Int) : Prop where
  byt : Byt w p n c xs
  own : 0 < n → ∃ b o cur fz, p = some ⟨b, o, none⟩ ∧ base ≤ b ∧ w.heap[b]? = some (.cells cur 5 fz)

/-- The row that is written is none of bytes, or lies below base. -/
def OffB (w : World) (base : Nat) (row : Option Nat) : Prop := ∀ r, row = some r → r < base ∨ ∀ cur fz, w.heap[r]? ≠ some (.cells cur 5 fz)
theorem OffB.none (w : World) (base : Nat) : OffB w base none := fun r h => by cases h
theorem Bod.grown {w w' : World} {base : Nat} {p : Option Addr} {n c : Nat} {xs : List Int} {row : Option Nat} (h : Bod w base p n c xs) (hg : w.grownBy w' row) (hr : OffB w base row) : Bod w' base p n c xs := by
  rcases Nat.eq_zero_or_pos n with h0 | h0
  · have hx : xs = [] := List.eq_nil_of_length_eq_zero (h.byt.len.trans h0)
    subst h0 hx
    exact ⟨Byt.nil _ _ _ h.byt.big, fun h => by omega⟩
  · obtain ⟨b, o, cur, fz, rfl, hb, hh⟩ := h.own h0
    have hne : some b ≠ row := by
      intro e
      rcases hr b e.symm with h1 | h1
      · omega
      · exact h1 _ _ hh
    have hlt : b < w.heap.size := (Array.getElem?_eq_some_iff.1 hh).1
    have hblk := hg.block b hlt hne
    refine ⟨⟨h.byt.len, h.byt.cap, h.byt.big, h.byt.rng, fun hn => ?_⟩, fun _ => ⟨b, o, cur, fz, rfl, hb, hblk.trans hh⟩⟩
    obtain ⟨b', o', e, hc⟩ := h.byt.mem hn
    injection e with e
    injection e with e1 e2
    subst e1 e2
    exact ⟨b, o, rfl, fun i hi => (World.cell?_of_block (a := ⟨b, o + i, none⟩) hblk).trans (hc i hi)⟩
theorem Bod.below {w w' : World} {base : Nat} {p : Option Addr} {n c : Nat} {xs : List Int} (h : Bod w base p n c xs) (hb : Below w.heap.size w w') : Bod w' base p n c xs :=
  h.grown (row := none) ⟨hb.os, hb.tape, hb.output, hb.size, fun i hi _ => hb.block i hi⟩ (OffB.none _ _)
theorem Bod.alloc {w : World} {base : Nat} {p : Option Addr} {n c : Nat} {xs : List Int} (h : Bod w base p n c xs) (o : Obj) : Bod (w.alloc o) base p n c xs := h.below ((Below.refl _ w).alloc (Nat.le_refl _) o)
theorem Bod.mono {w : World} {base base' : Nat} {p : Option Addr} {n c : Nat} {xs : List Int} (h : Bod w base p n c xs) (hb : base' ≤ base) : Bod w base' p n c xs :=
  ⟨h.byt, fun h0 => by
    obtain ⟨b, o, cur, fz, e, hb', hh⟩ := h.own h0
    exact ⟨b, o, cur, fz, e, by omega, hh⟩⟩
/-- What a row of the call's own holds. -/
theorem Own.bod {w : World} {base : Nat} {v : Value} {xs : List Int} {n : Nat} (h : Own w base 5 v xs) (hl : xs.length = n) (hr : ∀ x ∈ xs, 0 ≤ x ∧ x ≤ 255) : ∃ p c, v = .slice p n c ∧ Bod w base p n c xs := by
  obtain ⟨p, c, rfl, hb⟩ := h.bytN rfl hl hr
  refine ⟨p, c, rfl, hb, fun h0 => ?_⟩
  rcases h.2 with ⟨hv, hn⟩ | ⟨g, cap, cur, hv, hg, hh, _⟩
  · omega
  · simp at hv
    exact ⟨g, 0, cur, (0, 0), hv.1, hg, hh⟩
theorem Bod.nil (w : World) (base : Nat) (p : Option Addr) (c : Nat) (hc : c ≤ maxLen) : Bod w base p 0 c [] := ⟨Byt.nil _ _ _ hc, fun h => by omega⟩
end Go.Proofs.Ytilnbmlbahflkaa
