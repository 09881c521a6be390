/-
  make([]byte, n) as one step of a region that draws its order; a block of bytes as a row of the call's own.
-/
import Derived.Test.YtgpigjoonhghhaaDoorQPrfWb
import Derived.Deep.RegionLaw
namespace Go.Proofs.YtgpigjoonhghhaaDoor
open Go.RowKit
set_option linter.unusedVariables false
theorem Wb.own {w : World} {g : Nat} {e : TypeId} {l : List Int} (h : Wb w g e l) (base n : Nat) (hl : l.length = n) (hb : base ≤ g) (hn : n ≤ maxLen) : Own w base e (.slice (some ⟨g, 0, none⟩) n n) l := by
  subst hl
  exact ⟨by simp, .inr ⟨g, l.length, _, rfl, hb, h.heap, Nat.le_refl _, hn, by simp, by simp [← List.map_take]⟩⟩
theorem make_eq {P : Program} (t e : TypeId) (i : TypeInfo) (ht : P.underlying t = some (.slice e)) (hi : P.info? e = some i) (hz : i.zero = some (.int .u8 0)) (hsize : i.size = 1) (hby : i.bytes = 1) (n : Nat) (hn : n ≤ 1000) :
    ∃ Z : Array Value, Hid (Z = ((List.replicate n (0 : Int)).map (Value.int .u8)).toArray) ∧ ∀ w : World, (Instr.makeSlice t (.int .i64 n) (.int .i64 n)).run P w = .ok (.slice (some ⟨w.heap.size, 0, none⟩) n n) (w.alloc (.cells Z e)) := by
  refine ⟨_, rfl, fun w => ?_⟩
  have hr := run_make (P := P) w t e i (.int .u8 0) ht hi hz .i64 .i64 n n (by omega) (by omega) (by rw [hby]; omega) (by omega)
  simp only [Int.toNat_natCast, hsize, Nat.mul_one] at hr
  rw [hr]
  congr 3
  apply Array.ext'
  rw [show (Value.int IntKind.u8 0).cells = #[.int .u8 0] from rfl, toList_madeCells_one]
  simp
end Go.Proofs.YtgpigjoonhghhaaDoor
