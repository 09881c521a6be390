/-
  A selector that lies in a block of the call's own; a range of ports there; returning them.
-/
import Derived.Test.YtignenekomlleaaSelMath
import Derived.Test.YtignenekomlleaaInts
namespace Go.Proofs.Ytignenekomlleaa
open Go.RowKit
set_option linter.unusedVariables false

/-- The selector lies at block g from its first cell on. -/
structure SlIn (w : World) (g : Nat) (s : Sl) : Prop where
  c0 : w.cell? ⟨g, 0, none⟩ = some (.int .i64 s.p)
  c1 : w.cell? ⟨g, 1, none⟩ = some (.int .i64 s.a)
  c2 : w.cell? ⟨g, 2, none⟩ = some (.int .i64 s.b)
  c3 : w.cell? ⟨g, 3, none⟩ = some (.int .i64 s.lo.f)
  c4 : w.cell? ⟨g, 4, none⟩ = some (.int .u64 s.lo.h)
  c5 : w.cell? ⟨g, 5, none⟩ = some (.int .u64 s.lo.l)
  c6 : w.cell? ⟨g, 6, none⟩ = some (.int .i64 s.hi.f)
  c7 : w.cell? ⟨g, 7, none⟩ = some (.int .u64 s.hi.h)
  c8 : w.cell? ⟨g, 8, none⟩ = some (.int .u64 s.hi.l)
  fr : ∀ j, w.frozen? ⟨g, j, none⟩ = false
theorem SlIn.lt {w : World} {g : Nat} {s : Sl} (h : SlIn w g s) : g < w.heap.size := World.block_lt_of_cell? w _ h.c0
theorem SlIn.grown {w w' : World} {g : Nat} {s : Sl} {row : Option Nat} (h : SlIn w g s) (hg : w.grownBy w' row) (hne : some g ≠ row) : SlIn w' g s :=
  ⟨hg.cell h.c0 hne, hg.cell h.c1 hne, hg.cell h.c2 hne, hg.cell h.c3 hne, hg.cell h.c4 hne, hg.cell h.c5 hne, hg.cell h.c6 hne, hg.cell h.c7 hne, hg.cell h.c8 hne, fun j => (World.frozen?_of_block (a := ⟨g, j, none⟩) (hg.block g h.lt hne)).trans (h.fr j)⟩
theorem SlIn.below {w w' : World} {g : Nat} {s : Sl} (h : SlIn w g s) (hb : Below w.heap.size w w') : SlIn w' g s := h.grown (row := none) (grown_of_below hb none) (by simp)
theorem SlIn.alloc {w : World} {g : Nat} {s : Sl} (h : SlIn w g s) (b : Obj) : SlIn (w.alloc b) g s := h.below ((Below.refl _ _).alloc (Nat.le_refl _) b)
theorem SlIn.new (w : World) (s : Sl) (T : TypeId) : SlIn (w.alloc (.cells #[.int .i64 s.p, .int .i64 s.a, .int .i64 s.b, .int .i64 s.lo.f, .int .u64 s.lo.h, .int .u64 s.lo.l, .int .i64 s.hi.f, .int .u64 s.hi.h, .int .u64 s.hi.l] T)) w.heap.size s :=
  ⟨by go_simp, by go_simp, by go_simp, by go_simp, by go_simp, by go_simp, by go_simp, by go_simp, by go_simp, fun j => by go_simp⟩
theorem SlIn.set_ne {w : World} {g : Nat} {s : Sl} (h : SlIn w g s) (g' j : Nat) (v : Value) (hne : g ≠ g') : SlIn (w.setCell ⟨g', j, none⟩ v) g s :=
  h.grown (grown_set w g' j v) (by simp; exact hne)
section
variable {w : World} {g : Nat} {s : Sl}
theorem SlIn.setP (h : SlIn w g s) (z : Int) : SlIn (w.setCell ⟨g, 0, none⟩ (.int .i64 z)) g { s with p := z } := by
  obtain ⟨c0, c1, c2, c3, c4, c5, c6, c7, c8, fr⟩ := h
  exact ⟨by go_simp, by go_simp, by go_simp, by go_simp, by go_simp, by go_simp, by go_simp, by go_simp, by go_simp, fun j => by rw [World.frozen?_setCell]; exact fr j⟩
theorem SlIn.setA (h : SlIn w g s) (z : Int) : SlIn (w.setCell ⟨g, 1, none⟩ (.int .i64 z)) g { s with a := z } := by
  obtain ⟨c0, c1, c2, c3, c4, c5, c6, c7, c8, fr⟩ := h
  exact ⟨by go_simp, by go_simp, by go_simp, by go_simp, by go_simp, by go_simp, by go_simp, by go_simp, by go_simp, fun j => by rw [World.frozen?_setCell]; exact fr j⟩
theorem SlIn.setB (h : SlIn w g s) (z : Int) : SlIn (w.setCell ⟨g, 2, none⟩ (.int .i64 z)) g { s with b := z } := by
  obtain ⟨c0, c1, c2, c3, c4, c5, c6, c7, c8, fr⟩ := h
  exact ⟨by go_simp, by go_simp, by go_simp, by go_simp, by go_simp, by go_simp, by go_simp, by go_simp, by go_simp, fun j => by rw [World.frozen?_setCell]; exact fr j⟩
theorem SlIn.setLo (h : SlIn w g s) (z : Ad) : SlIn (((w.setCell ⟨g, 3, none⟩ (.int .i64 z.f)).setCell ⟨g, 4, none⟩ (.int .u64 z.h)).setCell ⟨g, 5, none⟩ (.int .u64 z.l)) g { s with lo := z } := by
  obtain ⟨c0, c1, c2, c3, c4, c5, c6, c7, c8, fr⟩ := h
  exact ⟨by go_simp, by go_simp, by go_simp, by go_simp, by go_simp, by go_simp, by go_simp, by go_simp, by go_simp, fun j => by rw [World.frozen?_setCell, World.frozen?_setCell, World.frozen?_setCell]; exact fr j⟩
theorem SlIn.setHi (h : SlIn w g s) (z : Ad) : SlIn (((w.setCell ⟨g, 6, none⟩ (.int .i64 z.f)).setCell ⟨g, 7, none⟩ (.int .u64 z.h)).setCell ⟨g, 8, none⟩ (.int .u64 z.l)) g { s with hi := z } := by
  obtain ⟨c0, c1, c2, c3, c4, c5, c6, c7, c8, fr⟩ := h
  exact ⟨by go_simp, by go_simp, by go_simp, by go_simp, by go_simp, by go_simp, by go_simp, by go_simp, by go_simp, fun j => by rw [World.frozen?_setCell, World.frozen?_setCell, World.frozen?_setCell]; exact fr j⟩
theorem SlIn.setAll (h : SlIn w g s) (z : Sl) : SlIn (((((((((w.setCell ⟨g, 0, none⟩ (.int .i64 z.p)).setCell ⟨g, 1, none⟩ (.int .i64 z.a)).setCell ⟨g, 2, none⟩ (.int .i64 z.b)).setCell ⟨g, 3, none⟩ (.int .i64 z.lo.f)).setCell ⟨g, 4, none⟩ (.int .u64 z.lo.h)).setCell ⟨g, 5, none⟩ (.int .u64 z.lo.l)).setCell ⟨g, 6, none⟩ (.int .i64 z.hi.f)).setCell ⟨g, 7, none⟩ (.int .u64 z.hi.h)).setCell ⟨g, 8, none⟩ (.int .u64 z.hi.l)) g z :=
  (((((h.setP z.p).setA z.a).setB z.b).setLo z.lo).setHi z.hi)
end
theorem load_sl {w : World} {g : Nat} {s : Sl} (h : SlIn w g s) : (loadVar 48 ⟨g, 0, none⟩).run Try.prog w = .ok (.agg #[.int .i64 s.p, .int .i64 s.a, .int .i64 s.b, .int .i64 s.lo.f, .int .u64 s.lo.h, .int .u64 s.lo.l, .int .i64 s.hi.f, .int .u64 s.hi.h, .int .u64 s.hi.l]) w := by
  obtain ⟨c0, c1, c2, c3, c4, c5, c6, c7, c8, fr⟩ := h
  simp [loadVar, go_sem, c0, c1, c2, c3, c4, c5, c6, c7, c8, Result.andThen]
theorem ret_sl {fn : Func} {R : Ending → World → Prop} {a : Act} {w : World} {p : Nat} {g : Nat} {s : Sl} (h : fn.results = #[.cell p 48]) (hp : a.tmps.getD p undef = .pointer (some ⟨g, 0, none⟩)) (hd : a.defers = [])
    (hh : SlIn w g s) (hR : R (.returned (.agg #[.int .i64 s.p, .int .i64 s.a, .int .i64 s.b, .int .i64 s.lo.f, .int .u64 s.lo.h, .int .u64 s.lo.l, .int .i64 s.hi.f, .int .u64 s.hi.h, .int .u64 s.hi.l])) w) : bodyPost Try.prog fn R .ret a w := by
  refine bodyPost_ret (v := (.agg #[.int .i64 s.p, .int .i64 s.a, .int .i64 s.b, .int .i64 s.lo.f, .int .u64 s.lo.h, .int .u64 s.lo.l, .int .i64 s.hi.f, .int .u64 s.hi.h, .int .u64 s.hi.l])) ?_ hd hR
  rw [Array.getD_eq_getD_getElem?] at hp
  simp [results, h, hp, asAddr, load_sl hh]
theorem ret_sl2 {fn : Func} {R : Ending → World → Prop} {a : Act} {w : World} {p u : Nat} {g : Nat} {s : Sl} {v : Value} (h : fn.results = #[.cell p 48, .tmp u]) (hp : a.tmps.getD p undef = .pointer (some ⟨g, 0, none⟩)) (hu : a.tmps.getD u undef = v) (hd : a.defers = [])
    (hh : SlIn w g s) (hR : R (.returned (.tuple #[(.agg #[.int .i64 s.p, .int .i64 s.a, .int .i64 s.b, .int .i64 s.lo.f, .int .u64 s.lo.h, .int .u64 s.lo.l, .int .i64 s.hi.f, .int .u64 s.hi.h, .int .u64 s.hi.l]), v])) w) : bodyPost Try.prog fn R .ret a w := by
  refine bodyPost_ret (v := .tuple #[(.agg #[.int .i64 s.p, .int .i64 s.a, .int .i64 s.b, .int .i64 s.lo.f, .int .u64 s.lo.h, .int .u64 s.lo.l, .int .i64 s.hi.f, .int .u64 s.hi.h, .int .u64 s.hi.l]), v]) ?_ hd hR
  rw [results_cell_tmp h]
  simp only [hp]
  simp [Result.andThen, hu, asAddr, load_sl hh]
/-- Two numbers that lie in a block. -/
theorem ret_span {fn : Func} {R : Ending → World → Prop} {a : Act} {w : World} {p : Nat} {g : Nat} {x y : Int} (h : fn.results = #[.cell p 127]) (hp : a.tmps.getD p undef = .pointer (some ⟨g, 0, none⟩)) (hd : a.defers = [])
    (h0 : w.cell? ⟨g, 0, none⟩ = some (.int .i64 x)) (h1 : w.cell? ⟨g, 1, none⟩ = some (.int .i64 y)) (hR : R (.returned (.agg #[.int .i64 x, .int .i64 y])) w) : bodyPost Try.prog fn R .ret a w := by
  refine bodyPost_ret (v := .agg #[.int .i64 x, .int .i64 y]) ?_ hd hR
  rw [Array.getD_eq_getD_getElem?] at hp
  have hl : (loadVar 127 ⟨g, 0, none⟩).run Try.prog w = .ok (.agg #[.int .i64 x, .int .i64 y]) w := by simp [loadVar, go_sem, h0, h1, Result.andThen]
  simp [results, h, hp, asAddr, hl]

/-- The address lies at block g from its first cell on. -/
structure AdIn (w : World) (g : Nat) (x : Ad) : Prop where
  c0 : w.cell? ⟨g, 0, none⟩ = some (.int .i64 x.f)
  c1 : w.cell? ⟨g, 1, none⟩ = some (.int .u64 x.h)
  c2 : w.cell? ⟨g, 2, none⟩ = some (.int .u64 x.l)
  fr : ∀ j, w.frozen? ⟨g, j, none⟩ = false
theorem AdIn.lt {w : World} {g : Nat} {x : Ad} (h : AdIn w g x) : g < w.heap.size := World.block_lt_of_cell? w _ h.c0
theorem AdIn.grown {w w' : World} {g : Nat} {x : Ad} {row : Option Nat} (h : AdIn w g x) (hg : w.grownBy w' row) (hne : some g ≠ row) : AdIn w' g x :=
  ⟨hg.cell h.c0 hne, hg.cell h.c1 hne, hg.cell h.c2 hne, fun j => (World.frozen?_of_block (a := ⟨g, j, none⟩) (hg.block g h.lt hne)).trans (h.fr j)⟩
theorem AdIn.below {w w' : World} {g : Nat} {x : Ad} (h : AdIn w g x) (hb : Below w.heap.size w w') : AdIn w' g x := h.grown (row := none) (grown_of_below hb none) (by simp)
theorem AdIn.alloc {w : World} {g : Nat} {x : Ad} (h : AdIn w g x) (b : Obj) : AdIn (w.alloc b) g x := h.below ((Below.refl _ _).alloc (Nat.le_refl _) b)
theorem AdIn.new (w : World) (x : Ad) (T : TypeId) : AdIn (w.alloc (.cells #[.int .i64 x.f, .int .u64 x.h, .int .u64 x.l] T)) w.heap.size x :=
  ⟨by go_simp, by go_simp, by go_simp, fun j => by go_simp⟩
theorem AdIn.set_ne {w : World} {g : Nat} {x : Ad} (h : AdIn w g x) (g' j : Nat) (v : Value) (hne : g ≠ g') : AdIn (w.setCell ⟨g', j, none⟩ v) g x :=
  h.grown (grown_set w g' j v) (by simp; exact hne)
theorem AdIn.setH {w : World} {g : Nat} {x : Ad} (h : AdIn w g x) (z : Int) : AdIn (w.setCell ⟨g, 1, none⟩ (.int .u64 z)) g { x with h := z } := by
  obtain ⟨c0, c1, c2, fr⟩ := h
  exact ⟨by go_simp, by go_simp, by go_simp, fun j => by rw [World.frozen?_setCell]; exact fr j⟩
theorem AdIn.setL {w : World} {g : Nat} {x : Ad} (h : AdIn w g x) (z : Int) : AdIn (w.setCell ⟨g, 2, none⟩ (.int .u64 z)) g { x with l := z } := by
  obtain ⟨c0, c1, c2, fr⟩ := h
  exact ⟨by go_simp, by go_simp, by go_simp, fun j => by rw [World.frozen?_setCell]; exact fr j⟩
theorem load_ad {w : World} {g : Nat} {x : Ad} (h : AdIn w g x) : (loadVar 46 ⟨g, 0, none⟩).run Try.prog w = .ok (.agg #[.int .i64 x.f, .int .u64 x.h, .int .u64 x.l]) w := by
  obtain ⟨c0, c1, c2, fr⟩ := h
  simp [loadVar, go_sem, c0, c1, c2, Result.andThen]
theorem ret_ad {fn : Func} {R : Ending → World → Prop} {a : Act} {w : World} {p : Nat} {g : Nat} {x : Ad} (h : fn.results = #[.cell p 46]) (hp : a.tmps.getD p undef = .pointer (some ⟨g, 0, none⟩)) (hd : a.defers = [])
    (hh : AdIn w g x) (hR : R (.returned (.agg #[.int .i64 x.f, .int .u64 x.h, .int .u64 x.l])) w) : bodyPost Try.prog fn R .ret a w := by
  refine bodyPost_ret (v := (.agg #[.int .i64 x.f, .int .u64 x.h, .int .u64 x.l])) ?_ hd hR
  rw [Array.getD_eq_getD_getElem?] at hp
  simp [results, h, hp, asAddr, load_ad hh]
/-- Two cells of numbers of a call's own. -/
structure TwoIn (w : World) (g : Nat) (x y : Int) : Prop where
  c0 : w.cell? ⟨g, 0, none⟩ = some (.int .i64 x)
  c1 : w.cell? ⟨g, 1, none⟩ = some (.int .i64 y)
  fr : ∀ j, w.frozen? ⟨g, j, none⟩ = false
theorem TwoIn.lt {w : World} {g : Nat} {x y : Int} (h : TwoIn w g x y) : g < w.heap.size := World.block_lt_of_cell? w _ h.c0
theorem TwoIn.grown {w w' : World} {g : Nat} {x y : Int} {row : Option Nat} (h : TwoIn w g x y) (hg : w.grownBy w' row) (hne : some g ≠ row) : TwoIn w' g x y :=
  ⟨hg.cell h.c0 hne, hg.cell h.c1 hne, fun j => (World.frozen?_of_block (a := ⟨g, j, none⟩) (hg.block g h.lt hne)).trans (h.fr j)⟩
theorem TwoIn.below {w w' : World} {g : Nat} {x y : Int} (h : TwoIn w g x y) (hb : Below w.heap.size w w') : TwoIn w' g x y := h.grown (row := none) (grown_of_below hb none) (by simp)
theorem TwoIn.alloc {w : World} {g : Nat} {x y : Int} (h : TwoIn w g x y) (b : Obj) : TwoIn (w.alloc b) g x y := h.below ((Below.refl _ _).alloc (Nat.le_refl _) b)
theorem TwoIn.new (w : World) (x y : Int) (T : TypeId) : TwoIn (w.alloc (.cells #[.int .i64 x, .int .i64 y] T)) w.heap.size x y :=
  ⟨by go_simp, by go_simp, fun j => by go_simp⟩
theorem TwoIn.set_ne {w : World} {g : Nat} {x y : Int} (h : TwoIn w g x y) (g' j : Nat) (v : Value) (hne : g ≠ g') : TwoIn (w.setCell ⟨g', j, none⟩ v) g x y :=
  h.grown (grown_set w g' j v) (by simp; exact hne)

/-- The ports of a selector. -/
theorem ports_any (s : Sl) (X Y : Int) (hs : spanP s = (X, Y)) (w : World) :
    Calls Try.prog 69 #[(.agg #[.int .i64 s.p, .int .i64 s.a, .int .i64 s.b, .int .i64 s.lo.f, .int .u64 s.lo.h, .int .u64 s.lo.l, .int .i64 s.hi.f, .int .u64 s.hi.h, .int .u64 s.hi.l])] w fun e w' => e = .returned (.agg #[.int .i64 X, .int .i64 Y]) ∧ Below w.heap.size w w' := by
  obtain ⟨sp, sa, sb, ⟨lf, lh, ll⟩, ⟨hf, hh, hl⟩⟩ := s
  unfold spanP at hs
  have HB := hidden (fun o1 o2 => ((Below.refl w.heap.size w).alloc (Nat.le_refl _) o1).alloc (by simp) o2)
  by_cases h1 : sa = 65535 ∧ sb = 0
  · rw [if_pos h1] at hs
    obtain ⟨rfl, rfl⟩ := h1
    simp at hs
    obtain ⟨rfl, rfl⟩ := hs
    go_enter Try.func69, Try.ntmps69
    go_wp2
    refine ret_span (g := w.heap.size + 1) (x := -1) (y := -1) rfl rfl rfl (by go_simp) (by go_simp) ?_
    exact ⟨rfl, HB.out _ _⟩
  rw [if_neg h1] at hs
  by_cases h2 : sa = 0 ∧ sb = 65535
  · rw [if_pos h2] at hs
    obtain ⟨rfl, rfl⟩ := h2
    simp at hs
    obtain ⟨rfl, rfl⟩ := hs
    go_enter Try.func69, Try.ntmps69
    go_wp2
    refine ret_span (g := w.heap.size + 1) (x := -1) (y := 65535) rfl rfl rfl (by go_simp) (by go_simp) ?_
    exact ⟨rfl, HB.out _ _⟩
  rw [if_neg h2] at hs
  simp only [Prod.mk.injEq] at hs
  obtain ⟨rfl, rfl⟩ := hs
  by_cases h3 : sa = 65535
  · subst h3
    have h4 : (sb == 0) = false := by simp; omega
    go_enter Try.func69, Try.ntmps69
    go_wp2
    refine ret_span (g := w.heap.size + 1) (x := 65535) (y := sb) rfl rfl rfl (by go_simp) (by go_simp) ?_
    exact ⟨rfl, HB.out _ _⟩
  by_cases h4 : sa = 0
  · subst h4
    have h5 : (sb == 65535) = false := by simp; omega
    go_enter Try.func69, Try.ntmps69
    go_wp2
    refine ret_span (g := w.heap.size + 1) (x := 0) (y := sb) rfl rfl rfl (by go_simp) (by go_simp) ?_
    exact ⟨rfl, HB.out _ _⟩
  go_enter Try.func69, Try.ntmps69
  go_wp2
  refine ret_span (g := w.heap.size + 1) (x := sa) (y := sb) rfl rfl rfl (by go_simp) (by go_simp) ?_
  exact ⟨rfl, HB.out _ _⟩
end Go.Proofs.Ytignenekomlleaa
