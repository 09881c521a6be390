/-
  An address and a selector as arguments of a law: their values written out, and how they read.
-/
import Derived.Test.YtignenekomlleaaSelKinds
import Derived.OpenShut
import Derived.Lib.SmallJoins
namespace Go.Proofs.Ytignenekomlleaa
open Go.RowKit Go.ChangeShapes Go.WideShapes
set_option linter.unusedVariables false

theorem array3a {α : Type} {cs : Array α} (h : cs.size = 3) : ∃ c0 c1 c2, cs = #[c0, c1, c2] := by
  obtain ⟨l⟩ := cs
  match l, h with
  | [c0, c1, c2], _ => exact ⟨c0, c1, c2, rfl⟩
theorem array9a {α : Type} {cs : Array α} (h : cs.size = 9) : ∃ c0 c1 c2 c3 c4 c5 c6 c7 c8, cs = #[c0, c1, c2, c3, c4, c5, c6, c7, c8] := by
  obtain ⟨l⟩ := cs
  match l, h with
  | [c0, c1, c2, c3, c4, c5, c6, c7, c8], _ => exact ⟨c0, c1, c2, c3, c4, c5, c6, c7, c8, rfl⟩
theorem list3a {α : Type} {l : List α} (h : l.length = 3) : ∃ c0 c1 c2, l = [c0, c1, c2] := by
  match l, h with
  | [c0, c1, c2], _ => exact ⟨c0, c1, c2, rfl⟩
theorem list5a {α : Type} {l : List α} (h : l.length = 5) : ∃ c0 c1 c2 c3 c4, l = [c0, c1, c2, c3, c4] := by
  match l, h with
  | [c0, c1, c2, c3, c4], _ => exact ⟨c0, c1, c2, c3, c4, rfl⟩
theorem ad_cells : Try.prog.cellsOf 46 = 3 := by kernel_rfl
theorem sl_cells : Try.prog.cellsOf 48 = 9 := by kernel_rfl
theorem u64_cellsA : Try.prog.cellsOf 44 = 1 := by kernel_rfl
theorem i64_cellsA : Try.prog.cellsOf 3 = 1 := by kernel_rfl

/-- How an address and a selector read. -/
def adD (H : Type) (x : Ad) : DataW H := .agg [.lit (.int .i64 x.f), .lit (.int .u64 x.h), .lit (.int .u64 x.l)]
def slD (H : Type) (s : Sl) : DataW H := .agg [.lit (.int .i64 s.p), .lit (.int .i64 s.a), .lit (.int .i64 s.b), adD H s.lo, adD H s.hi]

structure WfA (x : Ad) : Prop where
  wf : (Lit.int .i64 x.f).wf = true
  wh : (Lit.int .u64 x.h).wf = true
  wl : (Lit.int .u64 x.l).wf = true
structure WfS (s : Sl) : Prop where
  wp : (Lit.int .i64 s.p).wf = true
  wa : (Lit.int .i64 s.a).wf = true
  wb : (Lit.int .i64 s.b).wf = true
  lo : WfA s.lo
  hi : WfA s.hi
theorem WfA.fits {x : Ad} (h : WfA x) : FitA x := ⟨Go.bounds_i64 h.wf, Go.bounds_u64 h.wh, Go.bounds_u64 h.wl⟩
theorem WfS.fits {s : Sl} (h : WfS s) : FitS s := ⟨Go.bounds_i64 h.wp, Go.bounds_i64 h.wa, Go.bounds_i64 h.wb, h.lo.fits, h.hi.fits⟩

theorem trod_ad {H : Type} {enc : TypeId × Value → H} {W : World} {base : Nat} {sp : Nat → Bool} {held : Bool} {fuel : Nat} {c0 c1 c2 : Value} {y : DataW H × List MemPlace} (h : DataW.trod enc Try.prog W base sp held fuel 46 [c0, c1, c2] = some y) :
    ∃ x : Ad, c0 = .int .i64 x.f ∧ c1 = .int .u64 x.h ∧ c2 = .int .u64 x.l ∧ y = (adD H x, []) ∧ WfA x := by
  obtain ⟨xs, n, rfl, hx, _, hl, hall⟩ := DataW.trod_struct Try.underlying46 h
  obtain ⟨y0, y1, y2, rfl⟩ := list3a (by simpa using hl)
  have h0 := hall 0 _ rfl
  have h1 := hall 1 _ rfl
  have h2 := hall 2 _ rfl
  clear hall h hl
  simp [u64_cellsA, i64_cellsA] at h0 h1 h2
  obtain ⟨f, e0, rfl, w0⟩ := DataW.trod_int Try.underlying3 h0
  obtain ⟨hh, e1, rfl, w1⟩ := DataW.trod_int Try.underlying44 h1
  obtain ⟨l, e2, rfl, w2⟩ := DataW.trod_int Try.underlying44 h2
  simp at e0 e1 e2
  exact ⟨⟨f, hh, l⟩, e0, e1, e2, by rw [hx]; rfl, ⟨w0, w1, w2⟩⟩
theorem trod_ad_mk {H : Type} {enc : TypeId × Value → H} {W : World} {base : Nat} {sp : Nat → Bool} {held : Bool} (n : Nat) {x : Ad} (h : WfA x) :
    DataW.trod enc Try.prog W base sp held (n + 2) 46 [.int .i64 x.f, .int .u64 x.h, .int .u64 x.l] = some (adD H x, []) := by
  obtain ⟨w0, w1, w2⟩ := h
  have := trod_struct_mk (enc := enc) (P := Try.prog) (w := W) (base := base) (spare := sp) (held := held) (n := n + 1) (t := 46) (cs := [.int .i64 x.f, .int .u64 x.h, .int .u64 x.l])
    (xs := [(.lit (.int .i64 x.f), []), (.lit (.int .u64 x.h), []), (.lit (.int .u64 x.l), [])])
    Try.underlying46 (by rw [ad_cells]; rfl) (by simp [u64_cellsA, i64_cellsA, DataW.trod, Try.underlying44, Try.underlying3, w0, w1, w2])
  simpa [adD] using this
set_option maxRecDepth 100000 in
theorem open_ad {H : Type} {enc : TypeId × Value → H} {W : World} {r0 : Reach} {b0 : Nat} {v : Value} {d : DataW H} {q : List MemPlace} (hv : Value.okWide Try.prog W r0 b0 46 v)
    (h : DataW.Trod enc Try.prog W 0 (fun _ => true) true 46 v d q) :
    ∃ x : Ad, v = (.agg #[.int .i64 x.f, .int .u64 x.h, .int .u64 x.l]) ∧ d = adD H x ∧ q = [] ∧ WfA x := by
  obtain ⟨cs, rfl, hsz⟩ := okWide_struct Try.underlying46 hv
  obtain ⟨c0, c1, c2, rfl⟩ := array3a (hsz.trans ad_cells)
  obtain ⟨fuel, hf⟩ := h
  simp only [Value.cells] at hf
  obtain ⟨x, rfl, rfl, rfl, hy, hw⟩ := trod_ad hf
  obtain ⟨rfl, rfl⟩ := Prod.mk.inj hy
  exact ⟨x, rfl, rfl, rfl, hw⟩
theorem shut_ad {H : Type} {enc : TypeId × Value → H} {W : World} {base : Nat} {sp : Nat → Bool} {held : Bool} {x : Ad} (h : WfA x) :
    DataW.Trod enc Try.prog W base sp held 46 (.agg #[.int .i64 x.f, .int .u64 x.h, .int .u64 x.l]) (adD H x) [] := by
  refine ⟨2, ?_⟩
  simpa [Value.cells] using trod_ad_mk (enc := enc) (W := W) (base := base) (sp := sp) (held := held) 0 h

set_option maxRecDepth 100000 in
theorem open_sl {H : Type} {enc : TypeId × Value → H} {W : World} {r0 : Reach} {b0 : Nat} {v : Value} {d : DataW H} {q : List MemPlace} (hv : Value.okWide Try.prog W r0 b0 48 v)
    (h : DataW.Trod enc Try.prog W 0 (fun _ => true) true 48 v d q) :
    ∃ s : Sl, v = (.agg #[.int .i64 s.p, .int .i64 s.a, .int .i64 s.b, .int .i64 s.lo.f, .int .u64 s.lo.h, .int .u64 s.lo.l, .int .i64 s.hi.f, .int .u64 s.hi.h, .int .u64 s.hi.l]) ∧ d = slD H s ∧ q = [] ∧ WfS s := by
  obtain ⟨cs, rfl, hsz⟩ := okWide_struct Try.underlying48 hv
  obtain ⟨c0, c1, c2, c3, c4, c5, c6, c7, c8, rfl⟩ := array9a (hsz.trans sl_cells)
  obtain ⟨fuel, hf⟩ := h
  obtain ⟨xs, n, rfl, hx, _, hl, hall⟩ := DataW.trod_struct Try.underlying48 hf
  obtain ⟨y0, y1, y2, y3, y4, rfl⟩ := list5a (by simpa using hl)
  have h0 := hall 0 _ rfl
  have h1 := hall 1 _ rfl
  have h2 := hall 2 _ rfl
  have h3 := hall 3 _ rfl
  have h4 := hall 4 _ rfl
  clear hall hf hl
  simp [ad_cells, i64_cellsA, Value.cells] at h0 h1 h2 h3 h4 hx
  obtain ⟨p, e0, rfl, w0⟩ := DataW.trod_int Try.underlying3 h0
  obtain ⟨a, e1, rfl, w1⟩ := DataW.trod_int Try.underlying3 h1
  obtain ⟨b, e2, rfl, w2⟩ := DataW.trod_int Try.underlying3 h2
  obtain ⟨lo, e3, e4, e5, rfl, w3⟩ := trod_ad h3
  obtain ⟨hi, e6, e7, e8, rfl, w4⟩ := trod_ad h4
  simp at e0 e1 e2
  subst e0 e1 e2 e3 e4 e5 e6 e7 e8
  obtain ⟨rfl, rfl⟩ := hx
  exact ⟨⟨p, a, b, lo, hi⟩, rfl, rfl, rfl, ⟨w0, w1, w2, w3, w4⟩⟩
theorem shut_sl {H : Type} {enc : TypeId × Value → H} {W : World} {base : Nat} {sp : Nat → Bool} {held : Bool} {s : Sl} (h : WfS s) :
    DataW.Trod enc Try.prog W base sp held 48 (.agg #[.int .i64 s.p, .int .i64 s.a, .int .i64 s.b, .int .i64 s.lo.f, .int .u64 s.lo.h, .int .u64 s.lo.l, .int .i64 s.hi.f, .int .u64 s.hi.h, .int .u64 s.hi.l]) (slD H s) [] := by
  refine ⟨3, ?_⟩
  have k0 := trod_ad_mk (enc := enc) (W := W) (base := base) (sp := sp) (held := held) 0 h.lo
  have k1 := trod_ad_mk (enc := enc) (W := W) (base := base) (sp := sp) (held := held) 0 h.hi
  obtain ⟨w0, w1, w2, -, -⟩ := h
  have := trod_struct_mk (enc := enc) (P := Try.prog) (w := W) (base := base) (spare := sp) (held := held) (n := 2) (t := 48) (cs := [.int .i64 s.p, .int .i64 s.a, .int .i64 s.b, .int .i64 s.lo.f, .int .u64 s.lo.h, .int .u64 s.lo.l, .int .i64 s.hi.f, .int .u64 s.hi.h, .int .u64 s.hi.l])
    (xs := [(.lit (.int .i64 s.p), []), (.lit (.int .i64 s.a), []), (.lit (.int .i64 s.b), []), (adD H s.lo, []), (adD H s.hi, [])])
    Try.underlying48 (by rw [sl_cells]; rfl) (by
      have t0 : ∀ z : Int, (Lit.int .i64 z).wf = true → DataW.trod enc Try.prog W base sp held 2 3 [.int .i64 z] = some (.lit (.int .i64 z), []) := fun z hz => by simp [DataW.trod, Try.underlying3, hz]
      simp [ad_cells, i64_cellsA, t0 _ w0, t0 _ w1, t0 _ w2, k0, k1])
  simpa [Value.cells, slD] using this
end Go.Proofs.Ytignenekomlleaa
