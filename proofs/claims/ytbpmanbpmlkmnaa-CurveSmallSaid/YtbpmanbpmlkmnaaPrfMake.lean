/-
  make([]byte, n) as one step of a region that draws its order; a block of bytes as a row of the call's own.
-/
import Derived.Test.YtbpmanbpmlkmnaaPrfWb
import Derived.Deep.RegionLaw
namespace Go.Proofs.Ytbpmanbpmlkmnaa
open Go.RowKit
set_option linter.unusedVariables false

theorem Wb.own {w : World} {g : Nat} {e : TypeId} {l : List Int} (h : Wb w g e l) (base n : Nat) (hl : l.length = n) (hb : base ≤ g) (hn : n ≤ maxLen) : Own w base e (.slice (some ⟨g, 0, none⟩) n n) l := by
  subst hl
  exact ⟨by simp, .inr ⟨g, l.length, _, rfl, hb, h.heap, Nat.le_refl _, hn, by simp, by simp [← List.map_take]⟩⟩
theorem step_make_wb {P : Program} {w : World} {ops : Array Oper} {o : Oper} {a : Act} {K : Act → World → Prop} {Q : Exit → Act → World → Prop} {E : Prop} (hw : Region.wanted o (yielded ops a.tmps) = true) (l c : Operand) (t : TypeId) (hop : o.op = Op.makeSlice t l c)
    (e : TypeId) (i : TypeInfo) (ht : P.underlying t = some (.slice e)) (hi : P.info? e = some i) (hz : i.zero = some (.int .u8 0)) (hsize : i.size = 1) (hby : i.bytes = 1)
    (kl kc : IntKind) (n : Nat) (hl : a.eval l = .int kl n) (hc : a.eval c = .int kc n) (hn : n ≤ 1000)
    (h : ∀ w', Hid (Wb w' w.heap.size e (List.replicate n 0)) → Hid (Below w.heap.size w w') → K (a.put o.dst (.slice (some ⟨w.heap.size, 0, none⟩) n n)) w') :
    if Region.wanted o (yielded ops a.tmps) = true then Oper.wp P o a w K Q else E := by
  rw [if_pos hw]
  have hr := run_make (P := P) w t e i (.int .u8 0) ht hi hz kl kc n n (by omega) (by omega) (by rw [hby]; omega) (by omega)
  simp only [Int.toNat_natCast, hsize, Nat.mul_one] at hr
  unfold Oper.wp
  simp [execOp, hop, hl, hc, hr, Result.andThen]
  refine h _ ⟨?_⟩ ((Below.refl w.heap.size w).alloc (Nat.le_refl _) _)
  rw [heap_alloc_new]
  congr 2
  apply Array.ext'
  rw [show (Value.int IntKind.u8 0).cells = #[.int .u8 0] from rfl, toList_madeCells_one]
  simp
/-- make([]byte, n) as an equation, the cells left closed. -/
theorem make_eq {P : Program} (t e : TypeId) (i : TypeInfo) (ht : P.underlying t = some (.slice e)) (hi : P.info? e = some i) (hz : i.zero = some (.int .u8 0)) (hsize : i.size = 1) (hby : i.bytes = 1) (n : Nat) (hn : n ≤ 1000) :
    ∃ Z : Array Value, Hid (Z = ((List.replicate n (0 : Int)).map (Value.int .u8)).toArray) ∧ ∀ w : World, (Instr.makeSlice t (.int .i64 n) (.int .i64 n)).run P w = .ok (.slice (some ⟨w.heap.size, 0, none⟩) n n) (w.alloc (.cells Z e)) := by
  refine ⟨_, rfl, fun w => ?_⟩
  have hr := run_make (P := P) w t e i (.int .u8 0) ht hi hz .i64 .i64 n n (by omega) (by omega) (by rw [hby]; omega) (by omega)
  simp only [Int.toNat_natCast, hsize, Nat.mul_one] at hr
  rw [hr]
  congr 3
  apply Array.ext'
  rw [show (Value.int IntKind.u8 0).cells = #[.int .u8 0] from rfl, toList_madeCells_one]
  simp
theorem made_two (w1 : World) (base : Nat) (e : TypeId) (Z : Array Value) (n : Nat) (hZ : Z = ((List.replicate n (0 : Int)).map (Value.int .u8)).toArray) (hb : base ≤ w1.heap.size) (hn : n ≤ 1000) :
    Own ((w1.alloc (.cells Z e)).alloc (.cells Z e)).drew base e (.slice (some ⟨w1.heap.size, 0, none⟩) n n) (List.replicate n 0) ∧ Own ((w1.alloc (.cells Z e)).alloc (.cells Z e)).drew base e (.slice (some ⟨w1.heap.size + 1, 0, none⟩) n n) (List.replicate n 0) := by
  have h1 : Wb ((w1.alloc (.cells Z e)).alloc (.cells Z e)).drew w1.heap.size e (List.replicate n 0) := ((Wb.new w1 e _ Z hZ).alloc _).drew
  have h2 : Wb ((w1.alloc (.cells Z e)).alloc (.cells Z e)).drew (w1.heap.size + 1) e (List.replicate n 0) := by
    have := Wb.new (w1.alloc (.cells Z e)) e _ Z hZ
    rw [World.size_alloc] at this
    exact this.drew
  exact ⟨h1.own base n (by simp) hb (by unfold maxLen; omega), h2.own base n (by simp) (by omega) (by unfold maxLen; omega)⟩
end Go.Proofs.Ytbpmanbpmlkmnaa
