/-
  A header as an argument of a law: its value written out, and how it reads.
-/
import Derived.Test.YtjkeijkbekdjfaaHeaderWritesWalk
import Derived.OpenShut
import Derived.Lib.SmallJoins
namespace Go.Proofs.Ytjkeijkbekdjfaa
open Go.RowKit Go.ChangeShapes Go.WideShapes
set_option linter.unusedVariables false

theorem array6 {α : Type} {cs : Array α} (h : cs.size = 6) : ∃ c0 c1 c2 c3 c4 c5, cs = #[c0, c1, c2, c3, c4, c5] := by
  obtain ⟨l⟩ := cs
  match l, h with
  | [c0, c1, c2, c3, c4, c5], _ => exact ⟨c0, c1, c2, c3, c4, c5, rfl⟩

theorem list6 {α : Type} {l : List α} (h : l.length = 6) : ∃ c0 c1 c2 c3 c4 c5, l = [c0, c1, c2, c3, c4, c5] := by
  match l, h with
  | [c0, c1, c2, c3, c4, c5], _ => exact ⟨c0, c1, c2, c3, c4, c5, rfl⟩
theorem hdr_cells : Try.prog.cellsOf 29 = 6 := by kernel_rfl
theorem u64_cells : Try.prog.cellsOf 26 = 1 := by kernel_rfl
theorem i64_cells : Try.prog.cellsOf 3 = 1 := by kernel_rfl
theorem u32_cells : Try.prog.cellsOf 27 = 1 := by kernel_rfl

/-- How a header reads. -/
def hd6 (H : Type) (i r n x f m : Int) : DataW H := .agg [.lit (.int .u64 i), .lit (.int .u64 r), .lit (.int .i64 n), .lit (.int .i64 x), .lit (.int .i64 f), .lit (.int .u32 m)]

structure Wf6 (i r n x f m : Int) : Prop where
  wi : (Lit.int .u64 i).wf = true
  wr : (Lit.int .u64 r).wf = true
  wn : (Lit.int .i64 n).wf = true
  wx : (Lit.int .i64 x).wf = true
  wf : (Lit.int .i64 f).wf = true
  wm : (Lit.int .u32 m).wf = true
theorem Wf6.fits {i r n x f m : Int} (h : Wf6 i r n x f m) : Fits i r n x f m := ⟨Go.bounds_u64 h.wi, Go.bounds_u64 h.wr, Go.bounds_i64 h.wn, Go.bounds_i64 h.wx, Go.bounds_i64 h.wf, Go.bounds_u32 h.wm⟩

theorem open_hdr {H : Type} {enc : TypeId × Value → H} {W : World} {r0 : Reach} {b0 : Nat} {v : Value} {d : DataW H} {q : List MemPlace} (hv : Value.okWide Try.prog W r0 b0 29 v)
    (h : DataW.Trod enc Try.prog W 0 (fun _ => true) true 29 v d q) :
    ∃ i r n x f m, v = .agg #[.int .u64 i, .int .u64 r, .int .i64 n, .int .i64 x, .int .i64 f, .int .u32 m] ∧ d = hd6 H i r n x f m ∧ q = [] ∧ Wf6 i r n x f m := by
  obtain ⟨cs, rfl, hsz⟩ := okWide_struct Try.underlying29 hv
  obtain ⟨c0, c1, c2, c3, c4, c5, rfl⟩ := array6 (hsz.trans hdr_cells)
  obtain ⟨fuel, hf⟩ := h
  obtain ⟨xs, n, rfl, hx, _, hl, hall⟩ := DataW.trod_struct Try.underlying29 hf
  obtain ⟨y0, y1, y2, y3, y4, y5, rfl⟩ := list6 (by simpa using hl)
  have h0 := hall 0 _ rfl
  have h1 := hall 1 _ rfl
  have h2 := hall 2 _ rfl
  have h3 := hall 3 _ rfl
  have h4 := hall 4 _ rfl
  have h5 := hall 5 _ rfl
  clear hall hf hl
  simp [u64_cells, i64_cells, u32_cells, Value.cells] at h0 h1 h2 h3 h4 h5 hx
  obtain ⟨rfl, rfl⟩ := hx
  obtain ⟨i, e0, rfl, w0⟩ := DataW.trod_int Try.underlying26 h0
  obtain ⟨r, e1, rfl, w1⟩ := DataW.trod_int Try.underlying26 h1
  obtain ⟨n, e2, rfl, w2⟩ := DataW.trod_int Try.underlying3 h2
  obtain ⟨x, e3, rfl, w3⟩ := DataW.trod_int Try.underlying3 h3
  obtain ⟨f, e4, rfl, w4⟩ := DataW.trod_int Try.underlying3 h4
  obtain ⟨m, e5, rfl, w5⟩ := DataW.trod_int Try.underlying27 h5
  simp at e0 e1 e2 e3 e4 e5
  subst e0 e1 e2 e3 e4 e5
  exact ⟨i, r, n, x, f, m, rfl, rfl, rfl, ⟨w0, w1, w2, w3, w4, w5⟩⟩

theorem shut_hdr {H : Type} {enc : TypeId × Value → H} {W : World} {base : Nat} {sp : Nat → Bool} {held : Bool} {i r n x f m : Int} (h : Wf6 i r n x f m) :
    DataW.Trod enc Try.prog W base sp held 29 (.agg #[.int .u64 i, .int .u64 r, .int .i64 n, .int .i64 x, .int .i64 f, .int .u32 m]) (hd6 H i r n x f m) [] := by
  obtain ⟨w0, w1, w2, w3, w4, w5⟩ := h
  refine ⟨2, ?_⟩
  have := trod_struct_mk (enc := enc) (P := Try.prog) (w := W) (base := base) (spare := sp) (held := held) (n := 1) (t := 29) (cs := [.int .u64 i, .int .u64 r, .int .i64 n, .int .i64 x, .int .i64 f, .int .u32 m])
    (xs := [(.lit (.int .u64 i), []), (.lit (.int .u64 r), []), (.lit (.int .i64 n), []), (.lit (.int .i64 x), []), (.lit (.int .i64 f), []), (.lit (.int .u32 m), [])])
    Try.underlying29 (by rw [hdr_cells]; rfl) (by simp [u64_cells, i64_cells, u32_cells, DataW.trod, Try.underlying26, Try.underlying3, Try.underlying27, w0, w1, w2, w3, w4, w5])
  simpa [Value.cells, hd6] using this
end Go.Proofs.Ytjkeijkbekdjfaa
