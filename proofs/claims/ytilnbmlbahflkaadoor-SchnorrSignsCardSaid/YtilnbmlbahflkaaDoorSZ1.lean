/-
  Bytes that lie in a block of bytes of the call's own: they stay while rows of other things, or blocks of before, are written.
  A block of whole numbers of one kind; an element of such an array.
  A list of choices: an int; ints that lie in a block; growing worlds.
-/
import Derived.Test.YtilnbmlbahflkaaDoorRows
import Derived.Test.YtilnbmlbahflkaaDoorSGrow
import Derived.Test.YtilnbmlbahflkaaDoorSInfoB
import Derived.Test.YtilnbmlbahflkaaDoorSZ0
import Derived.Test.YtilnbmlbahflkaaDoorSCodes2
namespace Go.Proofs.YtilnbmlbahflkaaDoor
open Go.RowKit
set_option linter.unusedVariables false

/-- The slice reads as the bytes, and where there is one, it lies at block base or beyond, in a block of bytes. -/
structure Bod (w : World) (base : Nat) (p : Option Addr) (n c : Nat) (xs : List Int) : Prop where
  byt : Byt w p n c xs
  own : 0 < n → ∃ b o cur fz, p = some ⟨b, o, none⟩ ∧ base ≤ b ∧ w.heap[b]? = some (.cells cur 5 fz)

/-- The row that is written is none of bytes, or lies below base. -/
def OffB (w : World) (base : Nat) (row : Option Nat) : Prop := ∀ r, row = some r → r < base ∨ ∀ cur fz, w.heap[r]? ≠ some (.cells cur 5 fz)
theorem OffB.none (w : World) (base : Nat) : OffB w base none := fun r h => by cases h
theorem OffB.low {w : World} {base k : Nat} (h : k < base) : OffB w base (some k) := fun r hr => by cases hr; exact Or.inl h

theorem Bod.grown {w w' : World} {base : Nat} {p : Option Addr} {n c : Nat} {xs : List Int} {row : Option Nat} (h : Bod w base p n c xs) (hg : w.grownBy w' row) (hr : OffB w base row) : Bod w' base p n c xs := by
  rcases Nat.eq_zero_or_pos n with h0 | h0
  · have hx : xs = [] := List.eq_nil_of_length_eq_zero (h.byt.len.trans h0)
    subst h0 hx
    exact ⟨Byt.nil _ _ _ h.byt.big, fun h => by omega⟩
  · obtain ⟨b, o, cur, fz, rfl, hb, hh⟩ := h.own h0
    have hne : some b ≠ row := by
      intro e
      rcases hr b e.symm with h1 | h1
      · omega
      · exact h1 _ _ hh
    have hlt : b < w.heap.size := (Array.getElem?_eq_some_iff.1 hh).1
    have hblk := hg.block b hlt hne
    refine ⟨⟨h.byt.len, h.byt.cap, h.byt.big, h.byt.rng, fun hn => ?_⟩, fun _ => ⟨b, o, cur, fz, rfl, hb, hblk.trans hh⟩⟩
    obtain ⟨b', o', e, hc⟩ := h.byt.mem hn
    injection e with e
    injection e with e1 e2
    subst e1 e2
    exact ⟨b, o, rfl, fun i hi => (World.cell?_of_block (a := ⟨b, o + i, none⟩) hblk).trans (hc i hi)⟩
theorem Bod.below {w w' : World} {base : Nat} {p : Option Addr} {n c : Nat} {xs : List Int} (h : Bod w base p n c xs) (hb : Below w.heap.size w w') : Bod w' base p n c xs :=
  h.grown (row := none) ⟨hb.os, hb.tape, hb.output, hb.size, fun i hi _ => hb.block i hi⟩ (OffB.none _ _)
theorem Bod.alloc {w : World} {base : Nat} {p : Option Addr} {n c : Nat} {xs : List Int} (h : Bod w base p n c xs) (o : Obj) : Bod (w.alloc o) base p n c xs := h.below ((Below.refl _ w).alloc (Nat.le_refl _) o)
theorem Bod.mono {w : World} {base base' : Nat} {p : Option Addr} {n c : Nat} {xs : List Int} (h : Bod w base p n c xs) (hb : base' ≤ base) : Bod w base' p n c xs :=
  ⟨h.byt, fun h0 => by
    obtain ⟨b, o, cur, fz, e, hb', hh⟩ := h.own h0
    exact ⟨b, o, cur, fz, e, by omega, hh⟩⟩
/-- What a row of the call's own holds. -/
theorem Own.bod {w : World} {base : Nat} {v : Value} {xs : List Int} {n : Nat} (h : Own w base 5 v xs) (hl : xs.length = n) (hr : ∀ x ∈ xs, 0 ≤ x ∧ x ≤ 255) : ∃ p c, v = .slice p n c ∧ Bod w base p n c xs := by
  obtain ⟨p, c, rfl, hb⟩ := h.bytN rfl hl hr
  refine ⟨p, c, rfl, hb, fun h0 => ?_⟩
  rcases h.2 with ⟨hv, hn⟩ | ⟨g, cap, cur, hv, hg, hh, _⟩
  · omega
  · simp at hv
    exact ⟨g, 0, cur, (0, 0), hv.1, hg, hh⟩
theorem Bod.nil (w : World) (base : Nat) (p : Option Addr) (c : Nat) (hc : c ≤ maxLen) : Bod w base p 0 c [] := ⟨Byt.nil _ _ _ hc, fun h => by omega⟩
end Go.Proofs.YtilnbmlbahflkaaDoor

namespace Go.Proofs.YtilnbmlbahflkaaDoor
open Go.RowKit
set_option linter.unusedVariables false

/-- The cells of a list of numbers. -/
def ints (k : IntKind) (l : List Int) : Array Value := (l.map (Value.int k)).toArray
/-- The block g holds just these numbers. -/
structure Wn (k : IntKind) (w : World) (g : Nat) (t : TypeId) (l : List Int) : Prop where
  heap : w.heap[g]? = some (.cells (ints k l) t (0, 0))
section
variable {k : IntKind} {w : World} {g : Nat} {t : TypeId} {l : List Int}
theorem Wn.lt (h : Wn k w g t l) : g < w.heap.size := (Array.getElem?_eq_some_iff.1 h.heap).1
theorem Wn.cell (h : Wn k w g t l) (j : Nat) (hj : j < l.length) : w.cell? ⟨g, j, none⟩ = some (.int k (l.getD j 0)) := by
  rw [cell_of_row w g j _ _ _ h.heap]
  simp [ints, List.getD_eq_getElem?_getD, hj]
theorem Wn.fr (h : Wn k w g t l) (j : Nat) : w.frozen? ⟨g, j, none⟩ = false := frozen_of_row w g j _ _ h.heap
theorem Wn.set (h : Wn k w g t l) (j : Nat) (v : Int) : Wn k (w.setCell ⟨g, j, none⟩ (.int k v)) g t (l.set j v) := by
  constructor
  rw [heap_setCell_same w g j _ _ _ h.heap]
  simp [ints, List.map_set]
theorem Wn.other (h : Wn k w g t l) (a : Addr) (v : Value) (hn : g ≠ a.block) : Wn k (w.setCell a v) g t l := ⟨by rw [Below.heap_setCell w a v g hn]; exact h.heap⟩
theorem Wn.row (h : Wn k w g t l) (m : List Int) : Wn k (w.setRow g (ints k m)) g t m := ⟨setRow_heap w g _ _ _ _ h.heap⟩
theorem Wn.rowOther (h : Wn k w g t l) (j : Nat) (cs : Array Value) (hn : g ≠ j) : Wn k (w.setRow j cs) g t l := ⟨by rw [setRow_other w j g cs hn]; exact h.heap⟩
theorem Wn.alloc (h : Wn k w g t l) (o : Obj) : Wn k (w.alloc o) g t l := ⟨by rw [Below.heap_alloc w o g h.lt]; exact h.heap⟩
theorem Wn.drew (h : Wn k w g t l) : Wn k w.drew g t l := ⟨h.heap⟩
theorem Wn.drewN (h : Wn k w g t l) (r : Nat) : Wn k (w.drewN r) g t l := ⟨h.heap⟩
theorem Wn.below {w' : World} (h : Wn k w g t l) (hb : Below w.heap.size w w') : Wn k w' g t l := ⟨by rw [hb.block g h.lt]; exact h.heap⟩
theorem Wn.grown {w' : World} {row : Option Nat} (h : Wn k w g t l) (hg : w.grownBy w' row) (hn : some g ≠ row) : Wn k w' g t l := ⟨by rw [hg.block g h.lt hn]; exact h.heap⟩
theorem Wn.new (k : IntKind) (w : World) (t : TypeId) (l : List Int) (cs : Array Value) (hc : cs = ints k l) : Wn k (w.alloc (.cells cs t)) w.heap.size t l := ⟨by rw [heap_alloc_new]; rw [hc]⟩
theorem Wn.new' (k : IntKind) (w : World) (t : TypeId) (l : List Int) (cs : Array Value) (hc : cs = ints k l) (g : Nat) (hg : w.heap.size = g) : Wn k (w.alloc (.cells cs t)) g t l := by subst hg; exact Wn.new k w t l cs hc
theorem onek (k : IntKind) (l : List Int) : (ints k l).all (·.oneCell') = true := by
  simp [ints, Value.oneCell']
end
/-- An element of an array of numbers. -/
theorem run_indexN {k : IntKind} {P : Program} {t e : TypeId} {n : Nat} (ht : P.underlying t = some (.array n e)) (he : P.underlying e = some (.int k)) {i : TypeInfo} (hi : P.info? e = some i) (hs : i.size = 1) (l : List Int) (hl : l.length = n) (j : Nat) (hj : j < n) (w : World) :
    (Instr.index t (.agg (ints k l)) (.int .i64 j)).run P w = .ok (.int k (l.getD j 0)) w := by
  subst hl
  have h1 : (0 : Int) ≤ (j : Int) ∧ (j : Int) < (l.length : Int) := by omega
  have h2 : (Option.map (Value.int k) l[j]?) = some (.int k (l.getD j 0)) := by
    simp [List.getD_eq_getElem?_getD, hj]
  unfold Instr.index
  simp [asIntOf, run_underlying ht, run_underlying he, part, isAgg, sizeOf, typeInfo, hi, hs, ints, h2, Result.andThen]
  intro h
  omega
end Go.Proofs.YtilnbmlbahflkaaDoor

namespace Go.Proofs.YtilnbmlbahflkaaDoor
open Go.RowKit
set_option linter.unusedVariables false

theorem grown_set_new {a b : World} {row : Option Nat} (h : a.grownBy b row) (g j : Nat) (v : Value) (hg : a.heap.size ≤ g) : a.grownBy (b.setCell ⟨g, j, none⟩ v) row :=
  ⟨h.os, h.tape, h.output, by simp [World.setCell]; exact h.size, fun i hi hne => (Below.heap_setCell _ _ _ _ (by simp; omega)).trans (h.block i hi hne)⟩
theorem grown_alloc_new {a b : World} {row : Option Nat} (h : a.grownBy b row) (o : Obj) : a.grownBy (b.alloc o) row := grown_trans h (World.grownBy_alloc b o row)

theorem grown_own {a b c : World} {row row' : Option Nat} (h : a.grownBy b row) (hg : b.grownBy c row') (hr : ∀ j, row' = some j → a.heap.size ≤ j) : a.grownBy c row :=
  ⟨hg.os.trans h.os, hg.tape.trans h.tape, hg.output.trans h.output, Nat.le_trans h.size hg.size, fun i hi hne => (hg.block i (Nat.lt_of_lt_of_le hi h.size) (fun e => by have := hr i e.symm; omega)).trans (h.block i hi hne)⟩

end Go.Proofs.YtilnbmlbahflkaaDoor
