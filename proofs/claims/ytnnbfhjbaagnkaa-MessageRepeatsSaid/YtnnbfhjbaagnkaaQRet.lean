/-
  Returning a header that lies in a block of the call's own.
-/
import Derived.Test.YtnnbfhjbaagnkaaQHdrIn
namespace Go.Proofs.Ytnnbfhjbaagnkaa
open Go.RowKit
set_option linter.unusedVariables false

theorem load_hdr {w : World} {g o : Nat} {i r n x f m : Int} (h : HdrIn w g o i r n x f m) : (loadVar 29 ⟨g, o, none⟩).run Try.prog w = .ok (.agg #[.int .u64 i, .int .u64 r, .int .i64 n, .int .i64 x, .int .i64 f, .int .u32 m]) w := by
  obtain ⟨c0, c1, c2, c3, c4, c5, fr⟩ := h
  simp [loadVar, go_sem, c0, c1, c2, c3, c4, c5, Result.andThen]
theorem ret_hdr {fn : Func} {R : Ending → World → Prop} {a : Act} {w : World} {p : Nat} {g : Nat} {i r n x f m : Int} (h : fn.results = #[.cell p 29]) (hp : a.tmps.getD p undef = .pointer (some ⟨g, 0, none⟩)) (hd : a.defers = [])
    (hh : HdrIn w g 0 i r n x f m) (hR : R (.returned (.agg #[.int .u64 i, .int .u64 r, .int .i64 n, .int .i64 x, .int .i64 f, .int .u32 m])) w) : bodyPost Try.prog fn R .ret a w := by
  refine bodyPost_ret (v := .agg #[.int .u64 i, .int .u64 r, .int .i64 n, .int .i64 x, .int .i64 f, .int .u32 m]) ?_ hd hR
  rw [Array.getD_eq_getD_getElem?] at hp
  simp [results, h, hp, asAddr, load_hdr hh]
theorem ret_hdr2 {fn : Func} {R : Ending → World → Prop} {a : Act} {w : World} {p u : Nat} {g : Nat} {i r n x f m : Int} {v : Value} (h : fn.results = #[.cell p 29, .tmp u]) (hp : a.tmps.getD p undef = .pointer (some ⟨g, 0, none⟩)) (hu : a.tmps.getD u undef = v) (hd : a.defers = [])
    (hh : HdrIn w g 0 i r n x f m) (hR : R (.returned (.tuple #[.agg #[.int .u64 i, .int .u64 r, .int .i64 n, .int .i64 x, .int .i64 f, .int .u32 m], v])) w) : bodyPost Try.prog fn R .ret a w := by
  refine bodyPost_ret (v := .tuple #[.agg #[.int .u64 i, .int .u64 r, .int .i64 n, .int .i64 x, .int .i64 f, .int .u32 m], v]) ?_ hd hR
  rw [results_cell_tmp h]
  simp only [hp]
  simp [Result.andThen, hu, asAddr, load_hdr hh]
end Go.Proofs.Ytnnbfhjbaagnkaa
