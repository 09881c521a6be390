/-
  A payload as a value of sixteen cells: in a block, loaded, stored, returned.
  The first and the last address of a prefix, as the document's own text computes them: both are valid, and the address lies between them.
  Lists of rows of bytes: an element says where its bytes lie.
  What the document's own Check of one proposal returns.
  What package proposal's Check returns.
  What package proposal reads of a section and of a transform, or throws.
-/
import Derived.Test.YtnbkffehhahckaaGreatJZ0
import Derived.Test.YtnbkffehhahckaaGreatRows
import Derived.Test.YtnbkffehhahckaaGreatJZ3
import Derived.Test.YtnbkffehhahckaaGreatJMkAddr
import Derived.Test.YtnbkffehhahckaaGreatJZ1
import Derived.Laws.BitsLemmas
import Derived.Deep.RegionLaw
namespace Go.Proofs.YtnbkffehhahckaaGreat
open Go.RowKit
set_option linter.unusedVariables false
structure Sv where
  p : Option Addr
  n : Nat
  c : Nat
def nilV : Sv := ⟨none, 0, 0⟩
structure Pv where
  t : Int
  pr : Sv
  eg : Int
  ed : Sv
  ik : Int
  id : Sv
  am : Int
  ad : Sv
  np : Int
  ns : Sv
  nt : Int
  nd : Sv
  dp : Int
  ds : Sv
  se : Sv
  da : Sv
structure PvIn (w : World) (g : Nat) (x : Pv) : Prop where
  c0 : w.cell? ⟨g, 0, none⟩ = some (.int .i64 x.t)
  c1 : w.cell? ⟨g, 1, none⟩ = some (.slice x.pr.p x.pr.n x.pr.c)
  c2 : w.cell? ⟨g, 2, none⟩ = some (.int .i64 x.eg)
  c3 : w.cell? ⟨g, 3, none⟩ = some (.slice x.ed.p x.ed.n x.ed.c)
  c4 : w.cell? ⟨g, 4, none⟩ = some (.int .i64 x.ik)
  c5 : w.cell? ⟨g, 5, none⟩ = some (.slice x.id.p x.id.n x.id.c)
  c6 : w.cell? ⟨g, 6, none⟩ = some (.int .i64 x.am)
  c7 : w.cell? ⟨g, 7, none⟩ = some (.slice x.ad.p x.ad.n x.ad.c)
  c8 : w.cell? ⟨g, 8, none⟩ = some (.int .i64 x.np)
  c9 : w.cell? ⟨g, 9, none⟩ = some (.slice x.ns.p x.ns.n x.ns.c)
  c10 : w.cell? ⟨g, 10, none⟩ = some (.int .i64 x.nt)
  c11 : w.cell? ⟨g, 11, none⟩ = some (.slice x.nd.p x.nd.n x.nd.c)
  c12 : w.cell? ⟨g, 12, none⟩ = some (.int .i64 x.dp)
  c13 : w.cell? ⟨g, 13, none⟩ = some (.slice x.ds.p x.ds.n x.ds.c)
  c14 : w.cell? ⟨g, 14, none⟩ = some (.slice x.se.p x.se.n x.se.c)
  c15 : w.cell? ⟨g, 15, none⟩ = some (.slice x.da.p x.da.n x.da.c)
  fr : ∀ j, w.frozen? ⟨g, j, none⟩ = false
section
variable {w w' : World} {g : Nat} {x : Pv}
theorem PvIn.lt (h : PvIn w g x) : g < w.heap.size := World.block_lt_of_cell? w _ h.c0
theorem PvIn.grown {row : Option Nat} (h : PvIn w g x) (hg : w.grownBy w' row) (hne : some g ≠ row) : PvIn w' g x :=
  ⟨hg.cell h.c0 hne, hg.cell h.c1 hne, hg.cell h.c2 hne, hg.cell h.c3 hne, hg.cell h.c4 hne, hg.cell h.c5 hne, hg.cell h.c6 hne, hg.cell h.c7 hne, hg.cell h.c8 hne, hg.cell h.c9 hne, hg.cell h.c10 hne, hg.cell h.c11 hne, hg.cell h.c12 hne, hg.cell h.c13 hne, hg.cell h.c14 hne, hg.cell h.c15 hne, fun j => (World.frozen?_of_block (a := ⟨g, j, none⟩) (hg.block g h.lt hne)).trans (h.fr j)⟩
theorem PvIn.below (h : PvIn w g x) (hb : Below w.heap.size w w') : PvIn w' g x := h.grown (row := none) (grown_of_below hb none) (by simp)
theorem PvIn.alloc (h : PvIn w g x) (b : Obj) : PvIn (w.alloc b) g x := h.below ((Below.refl _ _).alloc (Nat.le_refl _) b)
theorem PvIn.new (w : World) (x : Pv) (T : TypeId) : PvIn (w.alloc (.cells #[.int .i64 x.t, .slice x.pr.p x.pr.n x.pr.c, .int .i64 x.eg, .slice x.ed.p x.ed.n x.ed.c, .int .i64 x.ik, .slice x.id.p x.id.n x.id.c, .int .i64 x.am, .slice x.ad.p x.ad.n x.ad.c, .int .i64 x.np, .slice x.ns.p x.ns.n x.ns.c, .int .i64 x.nt, .slice x.nd.p x.nd.n x.nd.c, .int .i64 x.dp, .slice x.ds.p x.ds.n x.ds.c, .slice x.se.p x.se.n x.se.c, .slice x.da.p x.da.n x.da.c] T)) w.heap.size x :=
  ⟨by go_simp, by go_simp, by go_simp, by go_simp, by go_simp, by go_simp, by go_simp, by go_simp, by go_simp, by go_simp, by go_simp, by go_simp, by go_simp, by go_simp, by go_simp, by go_simp, fun j => by go_simp⟩
theorem PvIn.set_ne (h : PvIn w g x) (g' j : Nat) (v : Value) (hne : g ≠ g') : PvIn (w.setCell ⟨g', j, none⟩ v) g x :=
  h.grown (grown_set w g' j v) (by simp; exact hne)
def setPv (w : World) (g : Nat) (z : Pv) : World := ((((((((((((((((w.setCell ⟨g, 0, none⟩ (.int .i64 z.t)).setCell ⟨g, 1, none⟩ (.slice z.pr.p z.pr.n z.pr.c)).setCell ⟨g, 2, none⟩ (.int .i64 z.eg)).setCell ⟨g, 3, none⟩ (.slice z.ed.p z.ed.n z.ed.c)).setCell ⟨g, 4, none⟩ (.int .i64 z.ik)).setCell ⟨g, 5, none⟩ (.slice z.id.p z.id.n z.id.c)).setCell ⟨g, 6, none⟩ (.int .i64 z.am)).setCell ⟨g, 7, none⟩ (.slice z.ad.p z.ad.n z.ad.c)).setCell ⟨g, 8, none⟩ (.int .i64 z.np)).setCell ⟨g, 9, none⟩ (.slice z.ns.p z.ns.n z.ns.c)).setCell ⟨g, 10, none⟩ (.int .i64 z.nt)).setCell ⟨g, 11, none⟩ (.slice z.nd.p z.nd.n z.nd.c)).setCell ⟨g, 12, none⟩ (.int .i64 z.dp)).setCell ⟨g, 13, none⟩ (.slice z.ds.p z.ds.n z.ds.c)).setCell ⟨g, 14, none⟩ (.slice z.se.p z.se.n z.se.c)).setCell ⟨g, 15, none⟩ (.slice z.da.p z.da.n z.da.c))
theorem setPv_frozen (w : World) (g : Nat) (z : Pv) (a : Addr) : (setPv w g z).frozen? a = w.frozen? a := by
  unfold setPv
  simp only [World.frozen?_setCell]
theorem setPv_in (h : PvIn w g x) (z : Pv) : PvIn (setPv w g z) g z := by
  have hf := setPv_frozen w g z
  obtain ⟨c0, c1, c2, c3, c4, c5, c6, c7, c8, c9, c10, c11, c12, c13, c14, c15, fr⟩ := h
  unfold setPv at hf ⊢
  exact ⟨by go_simp, by go_simp, by go_simp, by go_simp, by go_simp, by go_simp, by go_simp, by go_simp, by go_simp, by go_simp, by go_simp, by go_simp, by go_simp, by go_simp, by go_simp, by go_simp, fun j => by rw [hf]; exact fr j⟩
theorem setPv_grown (w : World) (g : Nat) (z : Pv) : w.grownBy (setPv w g z) (some g) := by
  unfold setPv
  exact grown_trans (grown_trans (grown_trans (grown_trans (grown_trans (grown_trans (grown_trans (grown_trans (grown_trans (grown_trans (grown_trans (grown_trans (grown_trans (grown_trans (grown_trans (grown_set _ g 0 _) (grown_set _ g 1 _)) (grown_set _ g 2 _)) (grown_set _ g 3 _)) (grown_set _ g 4 _)) (grown_set _ g 5 _)) (grown_set _ g 6 _)) (grown_set _ g 7 _)) (grown_set _ g 8 _)) (grown_set _ g 9 _)) (grown_set _ g 10 _)) (grown_set _ g 11 _)) (grown_set _ g 12 _)) (grown_set _ g 13 _)) (grown_set _ g 14 _)) (grown_set _ g 15 _)
end
theorem PvIn.any {w : World} {g : Nat} {x : Pv} (h : PvIn w g x) : ∃ y0 y1 y2 y3 y4 y5 y6 y7 y8 y9 y10 y11 y12 y13 y14 y15, w.cell? ⟨g, 0, none⟩ = some y0 ∧ w.cell? ⟨g, 1, none⟩ = some y1 ∧ w.cell? ⟨g, 2, none⟩ = some y2 ∧ w.cell? ⟨g, 3, none⟩ = some y3 ∧ w.cell? ⟨g, 4, none⟩ = some y4 ∧ w.cell? ⟨g, 5, none⟩ = some y5 ∧ w.cell? ⟨g, 6, none⟩ = some y6 ∧ w.cell? ⟨g, 7, none⟩ = some y7 ∧ w.cell? ⟨g, 8, none⟩ = some y8 ∧ w.cell? ⟨g, 9, none⟩ = some y9 ∧ w.cell? ⟨g, 10, none⟩ = some y10 ∧ w.cell? ⟨g, 11, none⟩ = some y11 ∧ w.cell? ⟨g, 12, none⟩ = some y12 ∧ w.cell? ⟨g, 13, none⟩ = some y13 ∧ w.cell? ⟨g, 14, none⟩ = some y14 ∧ w.cell? ⟨g, 15, none⟩ = some y15 ∧ ∀ j, w.frozen? ⟨g, j, none⟩ = false := by
  obtain ⟨c0, c1, c2, c3, c4, c5, c6, c7, c8, c9, c10, c11, c12, c13, c14, c15, fr⟩ := h
  exact ⟨_, _, _, _, _, _, _, _, _, _, _, _, _, _, _, _, c0, c1, c2, c3, c4, c5, c6, c7, c8, c9, c10, c11, c12, c13, c14, c15, fr⟩
theorem stored_pv {w W : World} {g : Nat} {z : Pv} (h : PvIn W g z) (hb : Below w.heap.size w W) (hg : w.heap.size ≤ g) (x : Pv) : PvIn (setPv W g x) g x ∧ Below w.heap.size w (setPv W g x) :=
  ⟨setPv_in h x, hb.grown (setPv_grown W g x) hb.size (fun j hj => by cases hj; exact hg)⟩
theorem load_pv {w : World} {g : Nat} {x : Pv} (h : PvIn w g x) : (loadVar 56 ⟨g, 0, none⟩).run Tryz.prog w = .ok (.agg #[.int .i64 x.t, .slice x.pr.p x.pr.n x.pr.c, .int .i64 x.eg, .slice x.ed.p x.ed.n x.ed.c, .int .i64 x.ik, .slice x.id.p x.id.n x.id.c, .int .i64 x.am, .slice x.ad.p x.ad.n x.ad.c, .int .i64 x.np, .slice x.ns.p x.ns.n x.ns.c, .int .i64 x.nt, .slice x.nd.p x.nd.n x.nd.c, .int .i64 x.dp, .slice x.ds.p x.ds.n x.ds.c, .slice x.se.p x.se.n x.se.c, .slice x.da.p x.da.n x.da.c]) w := by
  obtain ⟨c0, c1, c2, c3, c4, c5, c6, c7, c8, c9, c10, c11, c12, c13, c14, c15, fr⟩ := h
  simp [loadVar, go_sem, c0, c1, c2, c3, c4, c5, c6, c7, c8, c9, c10, c11, c12, c13, c14, c15, Result.andThen]
theorem ret_pv {fn : Func} {R : Ending → World → Prop} {a : Act} {w : World} {p u : Nat} {g : Nat} {x : Pv} {v : Value} (h : fn.results = #[.cell p 56, .tmp u]) (hp : a.tmps.getD p undef = .pointer (some ⟨g, 0, none⟩)) (hu : a.tmps.getD u undef = v) (hd : a.defers = [])
    (hh : PvIn w g x) (hR : R (.returned (.tuple #[(.agg #[.int .i64 x.t, .slice x.pr.p x.pr.n x.pr.c, .int .i64 x.eg, .slice x.ed.p x.ed.n x.ed.c, .int .i64 x.ik, .slice x.id.p x.id.n x.id.c, .int .i64 x.am, .slice x.ad.p x.ad.n x.ad.c, .int .i64 x.np, .slice x.ns.p x.ns.n x.ns.c, .int .i64 x.nt, .slice x.nd.p x.nd.n x.nd.c, .int .i64 x.dp, .slice x.ds.p x.ds.n x.ds.c, .slice x.se.p x.se.n x.se.c, .slice x.da.p x.da.n x.da.c]), v])) w) : bodyPost Tryz.prog fn R .ret a w := by
  refine bodyPost_ret (v := .tuple #[(.agg #[.int .i64 x.t, .slice x.pr.p x.pr.n x.pr.c, .int .i64 x.eg, .slice x.ed.p x.ed.n x.ed.c, .int .i64 x.ik, .slice x.id.p x.id.n x.id.c, .int .i64 x.am, .slice x.ad.p x.ad.n x.ad.c, .int .i64 x.np, .slice x.ns.p x.ns.n x.ns.c, .int .i64 x.nt, .slice x.nd.p x.nd.n x.nd.c, .int .i64 x.dp, .slice x.ds.p x.ds.n x.ds.c, .slice x.se.p x.se.n x.se.c, .slice x.da.p x.da.n x.da.c]), v]) ?_ hd hR
  rw [Array.getD_eq_getD_getElem?] at hp hu
  simp [results, h, hp, hu, asAddr, load_pv hh, Result.andThen]
def zeroP : Pv := ⟨0, nilV, 0, nilV, 0, nilV, 0, nilV, 0, nilV, 0, nilV, 0, nilV, nilV, nilV⟩
end Go.Proofs.YtnbkffehhahckaaGreat

namespace Go.Proofs.YtnbkffehhahckaaGreat
open Go.RowKit
set_option linter.unusedVariables false
theorem andNot_le (x y : Int) (h0 : 0 ≤ x) (h1 : x ≤ 18446744073709551615) : bits .andNot .u64 x y ≤ x := by
  obtain ⟨a, rfl⟩ := Int.eq_ofNat_of_zero_le h0
  have h2 : (BitVec.ofInt 64 (a : Int)).toNat = a := by
    rw [BitVec.ofInt_natCast, BitVec.toNat_ofNat]; exact Nat.mod_eq_of_lt (by omega)
  show IntKind.u64.wrap ((BitVec.ofInt 64 (a : Int) &&& ~~~(BitVec.ofInt 64 y)).toNat : Int) ≤ _
  rw [BitVec.toNat_and, h2, IntKind.wrap_u64]
  have := Nat.and_le_left (n := a) (m := (~~~(BitVec.ofInt 64 y)).toNat)
  omega
theorem or_ge (x y : Int) (h0 : 0 ≤ x) (h1 : x ≤ 18446744073709551615) : x ≤ bits .or .u64 x y := by
  obtain ⟨a, rfl⟩ := Int.eq_ofNat_of_zero_le h0
  have h2 : (BitVec.ofInt 64 (a : Int)).toNat = a := by
    rw [BitVec.ofInt_natCast, BitVec.toNat_ofNat]; exact Nat.mod_eq_of_lt (by omega)
  show _ ≤ IntKind.u64.wrap ((BitVec.ofInt 64 (a : Int) ||| BitVec.ofInt 64 y).toNat : Int)
  have h3 := (BitVec.ofInt 64 (a : Int) ||| BitVec.ofInt 64 y).isLt
  rw [BitVec.toNat_or, h2] at h3
  rw [BitVec.toNat_or, h2]
  have h4 := Nat.left_le_or (n := a) (m := (BitVec.ofInt 64 y).toNat)
  rw [IntKind.wrap_u64]
  omega
theorem or_lt32 (x y : Int) (h0 : 0 ≤ x) (h1 : x ≤ 4294967295) (h2 : 0 ≤ y) (h3 : y ≤ 4294967295) : bits .or .u64 x y ≤ 4294967295 := by
  obtain ⟨a, rfl⟩ := Int.eq_ofNat_of_zero_le h0
  obtain ⟨b, rfl⟩ := Int.eq_ofNat_of_zero_le h2
  rw [(bits_nat .u64 64 (by decide) (fun n h4 h5 => by rw [IntKind.wrap_u64]; omega) a b (by omega) (by omega)).2]
  have := Nat.or_lt_two_pow (x := a) (y := b) (n := 32) (by omega) (by omega)
  omega
structure PreA (a lo hi : Ad) : Prop where
  f1 : lo.f = a.f
  f2 : hi.f = a.f
  h1 : 0 ≤ lo.h ∧ lo.h ≤ a.h
  h2 : a.h ≤ hi.h ∧ hi.h ≤ 18446744073709551615
  l1 : 0 ≤ lo.l ∧ lo.l ≤ a.l
  l2 : a.l ≤ hi.l ∧ hi.l ≤ 18446744073709551615
  four : a.f = 4 → hi.h = 0 ∧ hi.l ≤ 4294967295
def bitsF (f : Int) : Nat := if f = 4 then 32 else 128
theorem rbits_any (f : Int) (w : World) : Calls Tryz.prog 106 #[.int .i64 f] w fun e w' => e = .returned (.int .i64 (bitsF f)) ∧ w = w' := by
  unfold bitsF
  by_cases h : f = 4
  · subst h
    go_enter Tryz.func106, Tryz.ntmps106
    go_wp2
    go_ret
    exact ⟨rfl, rfl⟩
  · have h' : (f == 4) = false := by simpa using h
    rw [if_neg h]
    go_enter Tryz.func106, Tryz.ntmps106
    go_wp2
    go_ret
    exact ⟨rfl, rfl⟩
structure PF (W w : World) (a : Ad) (g1 g2 : Nat) (lo hi : Ad) : Prop where
  bel : Below W.heap.size W w
  A : AdIn w W.heap.size a
  R : AdIn w (W.heap.size + 1) zeroA
  S : AdIn w (W.heap.size + 1 + 1) zeroA
  ge1 : W.heap.size + 1 + 1 < g1
  ge2 : W.heap.size + 1 + 1 < g2
  ne : g1 ≠ g2
  L : AdIn w g1 lo
  H : AdIn w g2 hi
  pre : PreA a lo hi
theorem PF.below {W w w' : World} {a : Ad} {g1 g2 : Nat} {lo hi : Ad} (h : PF W w a g1 g2 lo hi) (hb : Below w.heap.size w w') : PF W w' a g1 g2 lo hi :=
  ⟨h.bel.trans (hb.mono h.bel.size), h.A.below hb, h.R.below hb, h.S.below hb, h.ge1, h.ge2, h.ne, h.L.below hb, h.H.below hb, h.pre⟩
theorem PreA.self {a : Ad} (fit : FitA a) (ok : validA a = true) : PreA a a a := by
  have h1 := fit.h
  have h2 := fit.l
  refine ⟨rfl, rfl, ⟨by omega, by omega⟩, ⟨by omega, by omega⟩, ⟨by omega, by omega⟩, ⟨by omega, by omega⟩, fun e => ?_⟩
  unfold validA at ok
  rw [e] at ok
  simp at ok
  omega
theorem PF.start1 {W w1 : World} {a : Ad} (hb : Below W.heap.size W w1) (hA : AdIn w1 W.heap.size a) (hR : AdIn w1 (W.heap.size + 1) zeroA) (hS : AdIn w1 (W.heap.size + 1 + 1) zeroA) (fit : FitA a) (ok : validA a = true) :
    PF W ((w1.alloc (.cells #[.int .i64 a.f, .int .u64 a.h, .int .u64 a.l] 111)).alloc (.cells #[.int .i64 a.f, .int .u64 a.h, .int .u64 a.l] 111)).drew a (w1.heap.size) (w1.heap.size + 1) a a := by
  have hl := hS.lt
  exact ⟨((hb.alloc hb.size _).alloc (by have := hb.size; simp; omega) _).trans (drew_below ⟨1, rfl⟩), ((hA.alloc _).alloc _).below (drew_below ⟨1, rfl⟩), ((hR.alloc _).alloc _).below (drew_below ⟨1, rfl⟩), ((hS.alloc _).alloc _).below (drew_below ⟨1, rfl⟩), by omega, by omega, by omega, ((AdIn.new w1 a 111).alloc (.cells #[.int .i64 a.f, .int .u64 a.h, .int .u64 a.l] 111)).below (w' := ((w1.alloc (.cells #[.int .i64 a.f, .int .u64 a.h, .int .u64 a.l] 111)).alloc (.cells #[.int .i64 a.f, .int .u64 a.h, .int .u64 a.l] 111)).drew) (drew_below ⟨1, rfl⟩), (by have := (AdIn.new (w1.alloc (.cells #[.int .i64 a.f, .int .u64 a.h, .int .u64 a.l] 111)) a 111).below (w' := ((w1.alloc (.cells #[.int .i64 a.f, .int .u64 a.h, .int .u64 a.l] 111)).alloc (.cells #[.int .i64 a.f, .int .u64 a.h, .int .u64 a.l] 111)).drew) (drew_below ⟨1, rfl⟩); simpa using this), PreA.self fit ok⟩
theorem PF.start2 {W w1 : World} {a : Ad} (hb : Below W.heap.size W w1) (hA : AdIn w1 W.heap.size a) (hR : AdIn w1 (W.heap.size + 1) zeroA) (hS : AdIn w1 (W.heap.size + 1 + 1) zeroA) (fit : FitA a) (ok : validA a = true) :
    PF W ((w1.alloc (.cells #[.int .i64 a.f, .int .u64 a.h, .int .u64 a.l] 111)).alloc (.cells #[.int .i64 a.f, .int .u64 a.h, .int .u64 a.l] 111)).drew a (w1.heap.size + 1) (w1.heap.size) a a := by
  have hl := hS.lt
  exact ⟨((hb.alloc hb.size _).alloc (by have := hb.size; simp; omega) _).trans (drew_below ⟨1, rfl⟩), ((hA.alloc _).alloc _).below (drew_below ⟨1, rfl⟩), ((hR.alloc _).alloc _).below (drew_below ⟨1, rfl⟩), ((hS.alloc _).alloc _).below (drew_below ⟨1, rfl⟩), by omega, by omega, by omega, (by have := (AdIn.new (w1.alloc (.cells #[.int .i64 a.f, .int .u64 a.h, .int .u64 a.l] 111)) a 111).below (w' := ((w1.alloc (.cells #[.int .i64 a.f, .int .u64 a.h, .int .u64 a.l] 111)).alloc (.cells #[.int .i64 a.f, .int .u64 a.h, .int .u64 a.l] 111)).drew) (drew_below ⟨1, rfl⟩); simpa using this), ((AdIn.new w1 a 111).alloc (.cells #[.int .i64 a.f, .int .u64 a.h, .int .u64 a.l] 111)).below (w' := ((w1.alloc (.cells #[.int .i64 a.f, .int .u64 a.h, .int .u64 a.l] 111)).alloc (.cells #[.int .i64 a.f, .int .u64 a.h, .int .u64 a.l] 111)).drew) (drew_below ⟨1, rfl⟩), PreA.self fit ok⟩
theorem PF.ret1 {W w : World} {a : Ad} {g1 g2 : Nat} {lo hi : Ad} (h : PF W w a g1 g2 lo hi) : AdIn ((((((w.setCell ⟨W.heap.size + 1, 0, none⟩ (.int .i64 lo.f)).setCell ⟨W.heap.size + 1, 1, none⟩ (.int .u64 lo.h)).setCell ⟨W.heap.size + 1, 2, none⟩ (.int .u64 lo.l)).setCell ⟨W.heap.size + 1 + 1, 0, none⟩ (.int .i64 hi.f)).setCell ⟨W.heap.size + 1 + 1, 1, none⟩ (.int .u64 hi.h)).setCell ⟨W.heap.size + 1 + 1, 2, none⟩ (.int .u64 hi.l)).drew (W.heap.size + 1) lo ∧ AdIn ((((((w.setCell ⟨W.heap.size + 1, 0, none⟩ (.int .i64 lo.f)).setCell ⟨W.heap.size + 1, 1, none⟩ (.int .u64 lo.h)).setCell ⟨W.heap.size + 1, 2, none⟩ (.int .u64 lo.l)).setCell ⟨W.heap.size + 1 + 1, 0, none⟩ (.int .i64 hi.f)).setCell ⟨W.heap.size + 1 + 1, 1, none⟩ (.int .u64 hi.h)).setCell ⟨W.heap.size + 1 + 1, 2, none⟩ (.int .u64 hi.l)).drew (W.heap.size + 1 + 1) hi ∧ Below W.heap.size W ((((((w.setCell ⟨W.heap.size + 1, 0, none⟩ (.int .i64 lo.f)).setCell ⟨W.heap.size + 1, 1, none⟩ (.int .u64 lo.h)).setCell ⟨W.heap.size + 1, 2, none⟩ (.int .u64 lo.l)).setCell ⟨W.heap.size + 1 + 1, 0, none⟩ (.int .i64 hi.f)).setCell ⟨W.heap.size + 1 + 1, 1, none⟩ (.int .u64 hi.h)).setCell ⟨W.heap.size + 1 + 1, 2, none⟩ (.int .u64 hi.l)).drew := by
  refine ⟨?_, ?_, ((((((h.bel.setCell (p := ⟨W.heap.size + 1, 0, none⟩) (by simp <;> omega) _).setCell (p := ⟨W.heap.size + 1, 1, none⟩) (by simp <;> omega) _).setCell (p := ⟨W.heap.size + 1, 2, none⟩) (by simp <;> omega) _).setCell (p := ⟨W.heap.size + 1 + 1, 0, none⟩) (by simp <;> omega) _).setCell (p := ⟨W.heap.size + 1 + 1, 1, none⟩) (by simp <;> omega) _).setCell (p := ⟨W.heap.size + 1 + 1, 2, none⟩) (by simp <;> omega) _).trans (drew_below ⟨1, rfl⟩)⟩
  · obtain ⟨c0, c1, c2, fr⟩ := h.R
    exact ⟨by go_simp, by go_simp, by go_simp, fun j => by go_simp⟩
  · obtain ⟨c0, c1, c2, fr⟩ := h.S
    exact ⟨by go_simp, by go_simp, by go_simp, fun j => by go_simp⟩
theorem PF.ret2 {W w : World} {a : Ad} {g1 g2 : Nat} {lo hi : Ad} (h : PF W w a g1 g2 lo hi) : AdIn ((((((w.setCell ⟨W.heap.size + 1 + 1, 0, none⟩ (.int .i64 hi.f)).setCell ⟨W.heap.size + 1 + 1, 1, none⟩ (.int .u64 hi.h)).setCell ⟨W.heap.size + 1 + 1, 2, none⟩ (.int .u64 hi.l)).setCell ⟨W.heap.size + 1, 0, none⟩ (.int .i64 lo.f)).setCell ⟨W.heap.size + 1, 1, none⟩ (.int .u64 lo.h)).setCell ⟨W.heap.size + 1, 2, none⟩ (.int .u64 lo.l)).drew (W.heap.size + 1) lo ∧ AdIn ((((((w.setCell ⟨W.heap.size + 1 + 1, 0, none⟩ (.int .i64 hi.f)).setCell ⟨W.heap.size + 1 + 1, 1, none⟩ (.int .u64 hi.h)).setCell ⟨W.heap.size + 1 + 1, 2, none⟩ (.int .u64 hi.l)).setCell ⟨W.heap.size + 1, 0, none⟩ (.int .i64 lo.f)).setCell ⟨W.heap.size + 1, 1, none⟩ (.int .u64 lo.h)).setCell ⟨W.heap.size + 1, 2, none⟩ (.int .u64 lo.l)).drew (W.heap.size + 1 + 1) hi ∧ Below W.heap.size W ((((((w.setCell ⟨W.heap.size + 1 + 1, 0, none⟩ (.int .i64 hi.f)).setCell ⟨W.heap.size + 1 + 1, 1, none⟩ (.int .u64 hi.h)).setCell ⟨W.heap.size + 1 + 1, 2, none⟩ (.int .u64 hi.l)).setCell ⟨W.heap.size + 1, 0, none⟩ (.int .i64 lo.f)).setCell ⟨W.heap.size + 1, 1, none⟩ (.int .u64 lo.h)).setCell ⟨W.heap.size + 1, 2, none⟩ (.int .u64 lo.l)).drew := by
  refine ⟨?_, ?_, ((((((h.bel.setCell (p := ⟨W.heap.size + 1 + 1, 0, none⟩) (by simp <;> omega) _).setCell (p := ⟨W.heap.size + 1 + 1, 1, none⟩) (by simp <;> omega) _).setCell (p := ⟨W.heap.size + 1 + 1, 2, none⟩) (by simp <;> omega) _).setCell (p := ⟨W.heap.size + 1, 0, none⟩) (by simp <;> omega) _).setCell (p := ⟨W.heap.size + 1, 1, none⟩) (by simp <;> omega) _).setCell (p := ⟨W.heap.size + 1, 2, none⟩) (by simp <;> omega) _).trans (drew_below ⟨1, rfl⟩)⟩
  · obtain ⟨c0, c1, c2, fr⟩ := h.R
    exact ⟨by go_simp, by go_simp, by go_simp, fun j => by go_simp⟩
  · obtain ⟨c0, c1, c2, fr⟩ := h.S
    exact ⟨by go_simp, by go_simp, by go_simp, fun j => by go_simp⟩
theorem PF.stepH {W w : World} {a : Ad} {g1 g2 : Nat} {lo hi : Ad} (h : PF W w a g1 g2 lo hi) (fit : FitA a) (hf : a.f ≠ 4) (X Y : Int) :
    PF W ((w.setCell ⟨g1, 1, none⟩ (.int .u64 (bits .andNot .u64 lo.h X))).setCell ⟨g2, 1, none⟩ (.int .u64 (bits .or .u64 hi.h Y))) a g1 g2 { lo with h := bits .andNot .u64 lo.h X } { hi with h := bits .or .u64 hi.h Y } := by
  have k1 := h.ge1
  have k2 := h.ge2
  have k3 := h.ne
  have p := h.pre
  have q1 := p.h1
  have q2 := p.h2
  have q3 := fit.h
  have r1 := andNot_le lo.h X (by omega) (by omega)
  have r2 := bits_lo_u64 .andNot lo.h X
  have r3 := or_ge hi.h Y (by omega) (by omega)
  have r4 := bits_hi_u64 .or hi.h Y
  exact ⟨(h.bel.setCell (p := ⟨g1, 1, none⟩) (by simp; omega) _).setCell (p := ⟨g2, 1, none⟩) (by simp; omega) _, (h.A.set_ne _ _ _ (by omega)).set_ne _ _ _ (by omega), (h.R.set_ne _ _ _ (by omega)).set_ne _ _ _ (by omega), (h.S.set_ne _ _ _ (by omega)).set_ne _ _ _ (by omega), k1, k2, k3,
    (h.L.setH _).set_ne _ _ _ k3, (h.H.set_ne _ _ _ (Ne.symm k3)).setH _, ⟨p.f1, p.f2, ⟨r2, by simp only; omega⟩, ⟨by simp only; omega, r4⟩, p.l1, p.l2, fun e => absurd e hf⟩⟩
theorem PF.stepL {W w : World} {a : Ad} {g1 g2 : Nat} {lo hi : Ad} (h : PF W w a g1 g2 lo hi) (fit : FitA a) (X Y : Int) (hY : a.f = 4 → 0 ≤ Y ∧ Y ≤ 4294967295) :
    PF W ((w.setCell ⟨g1, 2, none⟩ (.int .u64 (bits .andNot .u64 lo.l X))).setCell ⟨g2, 2, none⟩ (.int .u64 (bits .or .u64 hi.l Y))) a g1 g2 { lo with l := bits .andNot .u64 lo.l X } { hi with l := bits .or .u64 hi.l Y } := by
  have k1 := h.ge1
  have k2 := h.ge2
  have k3 := h.ne
  have p := h.pre
  have q1 := p.l1
  have q2 := p.l2
  have q3 := fit.l
  have r1 := andNot_le lo.l X (by omega) (by omega)
  have r2 := bits_lo_u64 .andNot lo.l X
  have r3 := or_ge hi.l Y (by omega) (by omega)
  have r4 := bits_hi_u64 .or hi.l Y
  exact ⟨(h.bel.setCell (p := ⟨g1, 2, none⟩) (by simp; omega) _).setCell (p := ⟨g2, 2, none⟩) (by simp; omega) _, (h.A.set_ne _ _ _ (by omega)).set_ne _ _ _ (by omega), (h.R.set_ne _ _ _ (by omega)).set_ne _ _ _ (by omega), (h.S.set_ne _ _ _ (by omega)).set_ne _ _ _ (by omega), k1, k2, k3,
    (h.L.setL _).set_ne _ _ _ k3, (h.H.set_ne _ _ _ (Ne.symm k3)).setL _, ⟨p.f1, p.f2, p.h1, p.h2, ⟨r2, by simp only; omega⟩, ⟨by simp only; omega, r4⟩, fun e => ⟨(p.four e).1, or_lt32 _ _ (by omega) (p.four e).2 (hY e).1 (hY e).2⟩⟩⟩
theorem pow32 (k : Nat) (hk : k ≤ 31) : 0 ≤ IntKind.u64.wrap (2 ^ k) ∧ IntKind.u64.wrap (2 ^ k) ≤ 4294967295 := by
  have h1 : (2 : Nat) ^ k ≤ 2 ^ 31 := Nat.pow_le_pow_right (by decide) hk
  have h2 : ((2 : Int) ^ k) = ((2 ^ k : Nat) : Int) := by simp
  rw [h2]
  generalize (2 : Nat) ^ k = m at *
  rw [IntKind.wrap_u64]
  omega
theorem ret_ad3 {fn : Func} {R : Ending → World → Prop} {a : Act} {w : World} {p q u : Nat} {g1 g2 : Nat} {x y : Ad} {v : Value} (h : fn.results = #[.cell p 111, .cell q 111, .tmp u]) (hp : a.tmps.getD p undef = .pointer (some ⟨g1, 0, none⟩)) (hq : a.tmps.getD q undef = .pointer (some ⟨g2, 0, none⟩)) (hu : a.tmps.getD u undef = v) (hd : a.defers = [])
    (hx : AdIn w g1 x) (hy : AdIn w g2 y) (hR : R (.returned (.tuple #[(.agg #[.int .i64 x.f, .int .u64 x.h, .int .u64 x.l]), (.agg #[.int .i64 y.f, .int .u64 y.h, .int .u64 y.l]), v])) w) : bodyPost Tryz.prog fn R .ret a w := by
  refine bodyPost_ret (v := .tuple #[(.agg #[.int .i64 x.f, .int .u64 x.h, .int .u64 x.l]), (.agg #[.int .i64 y.f, .int .u64 y.h, .int .u64 y.l]), v]) ?_ hd hR
  rw [Array.getD_eq_getD_getElem?] at hp hq hu
  simp [results, h, hp, hq, hu, asAddr, load_ad hx, load_ad hy, Result.andThen]
theorem ret_ad2 {fn : Func} {R : Ending → World → Prop} {a : Act} {w : World} {p q : Nat} {g1 g2 : Nat} {x y : Ad} (h : fn.results = #[.cell p 111, .cell q 111]) (hp : a.tmps.getD p undef = .pointer (some ⟨g1, 0, none⟩)) (hq : a.tmps.getD q undef = .pointer (some ⟨g2, 0, none⟩)) (hd : a.defers = [])
    (hx : AdIn w g1 x) (hy : AdIn w g2 y) (hR : R (.returned (.tuple #[(.agg #[.int .i64 x.f, .int .u64 x.h, .int .u64 x.l]), (.agg #[.int .i64 y.f, .int .u64 y.h, .int .u64 y.l])])) w) : bodyPost Tryz.prog fn R .ret a w := by
  refine bodyPost_ret (v := .tuple #[(.agg #[.int .i64 x.f, .int .u64 x.h, .int .u64 x.l]), (.agg #[.int .i64 y.f, .int .u64 y.h, .int .u64 y.l])]) ?_ hd hR
  rw [Array.getD_eq_getD_getElem?] at hp hq
  simp [results, h, hp, hq, asAddr, load_ad hx, load_ad hy, Result.andThen]
set_option maxHeartbeats 1600000 in
set_option maxRecDepth 100000 in
theorem prefix_any (a : Ad) (fit : FitA a) (ok : validA a = true) (n : Int) (hn : 0 ≤ n ∧ n ≤ bitsF a.f) (w : World) :
    Calls Tryz.prog 85 #[(.agg #[.int .i64 a.f, .int .u64 a.h, .int .u64 a.l]), .int .i64 n] w fun e w' => ∃ lo hi : Ad, e = .returned (.tuple #[(.agg #[.int .i64 lo.f, .int .u64 lo.h, .int .u64 lo.l]), (.agg #[.int .i64 hi.f, .int .u64 hi.h, .int .u64 hi.l]), .int .i64 0]) ∧ PreA a lo hi ∧ Below w.heap.size w w' := by
  obtain ⟨n, rfl⟩ := Int.eq_ofNat_of_zero_le hn.1
  have HV := hidden (rvalid_any a)
  rw [ok] at HV
  have HBI := hidden (rbits_any a.f)
  have hB : bitsF a.f ≤ 128 := by unfold bitsF; split <;> omega
  have hB4 : a.f = 4 → bitsF a.f = 32 := fun h => by unfold bitsF; rw [if_pos h]
  have HB4 := hidden hB4
  have hnn : n ≤ bitsF a.f := by omega
  have HFIT := hidden fit
  have HOK := hidden ok
  generalize bitsF a.f = B at *
  clear hB4 ok fit hn
  have q0 : ¬ (n : Int) < 0 := by omega
  have q1 : ¬ B < n := by omega
  have q2 : decide ((n : Int) < 0) = false := by simp
  have q3 : decide (B < n) = false := by simpa using hnn
  have hB0 := hidden (below_three (w := w) (.cells #[.int .i64 a.f, .int .u64 a.h, .int .u64 a.l] 111) (.cells #[.int .i64 0, .int .u64 0, .int .u64 0] 111) (.cells #[.int .i64 0, .int .u64 0, .int .u64 0] 111))
  have HA0 := hidden (((AdIn.new w a 111).alloc (.cells #[.int .i64 0, .int .u64 0, .int .u64 0] 111)).alloc (.cells #[.int .i64 0, .int .u64 0, .int .u64 0] 111))
  have HR0 : Hid (AdIn (((w.alloc (.cells #[.int .i64 a.f, .int .u64 a.h, .int .u64 a.l] 111)).alloc (.cells #[.int .i64 0, .int .u64 0, .int .u64 0] 111)).alloc (.cells #[.int .i64 0, .int .u64 0, .int .u64 0] 111)) (w.heap.size + 1) zeroA) := hidden (by
    have := (AdIn.new (w.alloc (.cells #[.int .i64 a.f, .int .u64 a.h, .int .u64 a.l] 111)) zeroA 111).alloc (.cells #[.int .i64 0, .int .u64 0, .int .u64 0] 111)
    simpa [zeroA] using this)
  have HS0 : Hid (AdIn (((w.alloc (.cells #[.int .i64 a.f, .int .u64 a.h, .int .u64 a.l] 111)).alloc (.cells #[.int .i64 0, .int .u64 0, .int .u64 0] 111)).alloc (.cells #[.int .i64 0, .int .u64 0, .int .u64 0] 111)) (w.heap.size + 1 + 1) zeroA) := hidden (by
    have := (AdIn.new ((w.alloc (.cells #[.int .i64 a.f, .int .u64 a.h, .int .u64 a.l] 111)).alloc (.cells #[.int .i64 0, .int .u64 0, .int .u64 0] 111)) zeroA 111)
    simpa [zeroA] using this)
  go_enter Tryz.func85, Tryz.ntmps85
  go_upto_region 5 with (first
    | (go_at_call 105; (with_reducible refine (HV.out _).mono ?_); rintro e w1 ⟨rfl, hb⟩; have HB1 := hidden (hB0.out.trans (hb.mono hB0.out.size)); have HA1 := hidden (HA0.out.below hb); have HR1 := hidden (HR0.out.below hb); have HS1 := hidden (HS0.out.below hb); obtain ⟨a0, a1, a2, af⟩ := HA1.out; clear hb HA0 HR0 HS0 hB0)
    | (go_at_call 106; (with_reducible refine (HBI.out _).mono ?_); rintro e w1 ⟨rfl, rfl⟩))
  go_cut [7, 8] from 27 to 28 (fun u v wx => ∃ g1 g2, u = .pointer (some ⟨g1, 0, none⟩) ∧ v = .pointer (some ⟨g2, 0, none⟩) ∧ PF w wx a g1 g2 a a)
  case first =>
    have hs1 := HS1.out.lt
    have ha1 := HA1.out.lt
    go_region
    all_goals go_wp2_with fail
    all_goals go_meet
    all_goals (case rel => first
      | exact ⟨_, _, rfl, rfl, PF.start1 HB1.out HA1.out HR1.out HS1.out HFIT.out HOK.out⟩
      | exact ⟨_, _, rfl, rfl, PF.start2 HB1.out HA1.out HR1.out HS1.out HFIT.out HOK.out⟩)
  case rest =>
    obtain ⟨g1, g2, rfl, rfl, hpf⟩ := hcut
    have HP0 := hidden hpf
    clear hpf HA1 HR1 HS1 HB1 a0 a1 a2 af
    go_wp2_with fail
    go_loopw [9] (fun i wx => ∃ (j : Nat) (lo hi : Ad), i = .int .i64 j ∧ j ≤ B ∧ PF w wx a g1 g2 lo hi) (fun i _ => B - (intOf i).toNat)
    case atStart => exact ⟨n, a, a, rfl, hnn, HP0.out⟩
    case round =>
      obtain ⟨j, lo, hi, rfl, hj, hpf⟩ := hrel
      have HP := hidden hpf
      obtain ⟨a0, a1, a2, af⟩ := hpf.A
      clear hpf HP0
      by_cases hjB : j < B
      · have hjB' : (j : Int) < B := by omega
        obtain ⟨l0, l1, l2, lf⟩ := HP.out.L
        obtain ⟨h0, h1, h2, hf⟩ := HP.out.H
        have n1 : ¬ g1 = g2 := HP.out.ne
        have n2 : ¬ g2 = g1 := fun e => n1 e.symm
        go_wp2_with (go_at_call 106; (with_reducible refine (HBI.out _).mono ?_); rintro e w1 ⟨rfl, rfl⟩)
        all_goals
          go_roundw
          case rel =>
            first
              | exact ⟨j + 1, _, _, by go_num, by omega, HP.out.stepH HFIT.out (fun e => by have := HB4.out e; omega) _ _⟩
              | exact ⟨j + 1, _, _, by go_num, by omega, HP.out.stepL HFIT.out _ _ (fun e => by have := HB4.out e; exact pow32 _ (by omega))⟩
          case measure => simp [intOf]; omega
      · obtain rfl : j = B := by omega
        obtain ⟨l0, l1, l2, lf⟩ := HP.out.L
        obtain ⟨h0, h1, h2, hf⟩ := HP.out.H
        obtain ⟨r0, r1, r2, rf⟩ := HP.out.R
        obtain ⟨s0, s1, s2, sf⟩ := HP.out.S
        go_wp2_with (go_at_call 106; (with_reducible refine (HBI.out _).mono ?_); rintro e w1 ⟨rfl, rfl⟩)
        have k1 := HP.out.ge1
        have k2 := HP.out.ge2
        have e1 : ¬ g1 = w.heap.size + 1 := by omega
        have e2 : ¬ g1 = w.heap.size + 1 + 1 := by omega
        have e3 : ¬ g2 = w.heap.size + 1 := by omega
        have e4 : ¬ g2 = w.heap.size + 1 + 1 := by omega
        have e5 : ¬ w.heap.size + 1 = g1 := by omega
        have e6 : ¬ w.heap.size + 1 + 1 = g1 := by omega
        have e7 : ¬ w.heap.size + 1 = g2 := by omega
        have e8 : ¬ w.heap.size + 1 + 1 = g2 := by omega
        go_region
        all_goals go_wp2_with fail
        all_goals first
          | (obtain ⟨z1, z2, z3⟩ := HP.out.ret1
             refine ret_ad3 (g1 := w.heap.size + 1) (g2 := w.heap.size + 1 + 1) (x := lo) (y := hi) (v := .int .i64 0) rfl rfl rfl rfl rfl z1 z2 ?_
             exact ⟨lo, hi, rfl, HP.out.pre, z3⟩)
          | (obtain ⟨z1, z2, z3⟩ := HP.out.ret2
             refine ret_ad3 (g1 := w.heap.size + 1) (g2 := w.heap.size + 1 + 1) (x := lo) (y := hi) (v := .int .i64 0) rfl rfl rfl rfl rfl z1 z2 ?_
             exact ⟨lo, hi, rfl, HP.out.pre, z3⟩)
          | fail
end Go.Proofs.YtnbkffehhahckaaGreat

namespace Go.Proofs.YtnbkffehhahckaaGreat
open Go.RowKit
set_option linter.unusedVariables false
structure Sb where
  p : Option Addr
  n : Nat
  c : Nat
  xs : List Int
def KSb : KindR Sb where
  e := 22
  k := 1
  cs x := [.slice x.p x.n x.c]
  len _ := rfl
  one x u hu := by
    simp at hu
    subst hu
    rfl
  pos := by decide
def DSb : ReadN Sb where
  ok w x := Byt w x.p x.n x.c x.xs
  keep h hk := h.keep hk
def NSb : NestR Sb where
  ts := [5]
  ok w base x := Bod w base x.p x.n x.c x.xs
  keep h hg ho := h.grown hg (fun r hr => (ho r hr).imp id (fun h2 cur fz e => h2 cur _ fz e (by simp)))
  mono h hb := h.mono hb
theorem Tryz.infoSb : (Tryz.prog.info? 22).map (fun i => (i.zero, i.size, i.bytes)) = some (some (.slice none 0 0), 1, 24) := by kernel_rfl
theorem knownSb : KnownR Tryz.prog KSb 51 24 := by
  refine ⟨Tryz.underlying51, ?_⟩
  obtain ⟨i0, hi, hz0, hz1, hz2⟩ := info_parts Tryz.infoSb
  exact ⟨i0, _, hi, hz0, hz1, hz2, rfl⟩
theorem srcSb (w : World) (x : Sb) (T : TypeId) : SrcG KSb (w.alloc (.cells #[.slice x.p x.n x.c] T)) (some ⟨w.heap.size, 0, none⟩) 1 [x] := SrcG.new KSb w [x] T
theorem RowG.sbs {w : World} {base : Nat} {v : Value} {l : List Sb} (h : RowG KSb NSb w base v l) {n : Nat} (hn : l.length = n) : ∃ p c, v = .slice p n c ∧ RdG KSb DSb w p n c l := h.rd hn (fun x hx => hx.byt)
theorem RdG.sb_cons {w : World} {p : Option Addr} {n c j : Nat} {l : List Sb} (h : RdG KSb DSb w p n c l) (hj : j < n) :
    ∃ g x, p = some ⟨g, 0, none⟩ ∧ l[j]? = some x ∧ l.drop j = x :: l.drop (j + 1) ∧ Byt w x.p x.n x.c x.xs ∧ w.cell? ⟨g, j, none⟩ = some (.slice x.p x.n x.c) := by
  have hl : j < l.length := by rw [h.len]; exact hj
  obtain ⟨g, e, hc, hd⟩ := h.cell j hl
  have := hc 0 _ rfl
  simp only [KSb, Nat.mul_one, Nat.add_zero] at this
  exact ⟨g, l[j], e, List.getElem?_eq_getElem hl, List.drop_eq_getElem_cons hl, hd, this⟩
end Go.Proofs.YtnbkffehhahckaaGreat

namespace Go.Proofs.YtnbkffehhahckaaGreat
open Go.RowKit
set_option linter.unusedVariables false
theorem errTrs_step (ts : List Tr) (j : Nat) (hj : j < ts.length) : errTrs (ts.take j) (ts.drop j) =
    if ts[j].t < 1 ∨ 5 < ts[j].t ∨ ts[j].i < 0 ∨ 65535 < ts[j].i ∨ ts[j].k < 0 ∨ 65535 < ts[j].k then 5 else if ts[j] ∈ ts.take j then 9 else errTrs (ts.take (j + 1)) (ts.drop (j + 1)) := by
  rw [List.drop_eq_getElem_cons hj, errTrs, List.take_add_one, List.getElem?_eq_getElem hj]
  rfl
def ErrNew (w : World) (E : Int) (e : Ending) (w' : World) : Prop := e = .returned (.int .i64 E) ∧ Below w.heap.size w w'
theorem eql_tr (w : World) (a b c a' b' c' : Int) : (binOp .eql 109 (.agg #[.int .i64 a, .int .i64 b, .int .i64 c]) (.agg #[.int .i64 a', .int .i64 b', .int .i64 c'])).run Tryz.prog w = .ok (.bool (a == a' && b == b' && c == c')) w := by
  go_simp
  by_cases h1 : a = a' <;> by_cases h2 : b = b' <;> by_cases h3 : c = c' <;> simp [h1, h2, h3]
end Go.Proofs.YtnbkffehhahckaaGreat

namespace Go.Proofs.YtnbkffehhahckaaGreat
open Go.RowKit
set_option linter.unusedVariables false
set_option maxHeartbeats 400000 in
theorem isSpi_any (p : Int) (n : Nat) (w : World) (b : Bool) (hb : b = true ↔ (p = 1 ∧ (n = 0 ∨ n = 8)) ∨ (p ≠ 1 ∧ n = 4)) :
    Calls Tryz.prog 115 #[.int .i64 p, .int .i64 n] w fun e w' => e = .returned (.bool b) ∧ w = w' := by
  by_cases h1 : p = 1
  · subst h1
    by_cases h0 : n = 0
    · subst h0
      obtain rfl : b = true := by simpa using hb
      clear hb
      go_enter Tryz.func115, Tryz.ntmps115
      go_wp2
      go_ret
      exact ⟨rfl, rfl⟩
    · have hb' : b = ((n : Int) == 8) := by
        rw [Bool.eq_iff_iff, hb]
        simp [h0]
        omega
      have h0' : ((n : Int) == 0) = false := by simpa using h0
      clear hb
      go_enter Tryz.func115, Tryz.ntmps115
      go_wp2
      go_ret
      exact ⟨by rw [hb']; rfl, rfl⟩
  · have h1' : (p == 1) = false := by simpa using h1
    have hb' : b = ((n : Int) == 4) := by
      rw [Bool.eq_iff_iff, hb]
      simp [h1]
      omega
    clear hb
    go_enter Tryz.func115, Tryz.ntmps115
    go_wp2
    go_ret
    exact ⟨by rw [hb']; rfl, rfl⟩
set_option maxHeartbeats 400000 in
theorem inRange_no (t i k : Int) (w : World) (h : t < 1 ∨ 5 < t ∨ i < 0 ∨ 65535 < i ∨ k < 0 ∨ 65535 < k) :
    Calls Tryz.prog 116 #[.agg #[.int .i64 t, .int .i64 i, .int .i64 k]] w fun e w' => e = .returned (.bool false) ∧ Below w.heap.size w w' := by
  by_cases q1 : t < 1
  · have r1 : ¬ 1 ≤ t := by omega
    clear h
    go_enter Tryz.func116, Tryz.ntmps116
    go_wp2
    go_ret
    exact ⟨rfl, (Below.refl _ w).alloc (Nat.le_refl _) _⟩
  have r1 : 1 ≤ t := by omega
  by_cases q2 : 5 < t
  · have r2 : ¬ t ≤ 5 := by omega
    clear h
    go_enter Tryz.func116, Tryz.ntmps116
    go_wp2
    go_ret
    exact ⟨rfl, (Below.refl _ w).alloc (Nat.le_refl _) _⟩
  have r2 : t ≤ 5 := by omega
  by_cases q3 : i < 0
  · have r3 : ¬ 0 ≤ i := by omega
    clear h
    go_enter Tryz.func116, Tryz.ntmps116
    go_wp2
    go_ret
    exact ⟨rfl, (Below.refl _ w).alloc (Nat.le_refl _) _⟩
  have r3 : 0 ≤ i := by omega
  by_cases q4 : 65535 < i
  · have r4 : ¬ i ≤ 65535 := by omega
    clear h
    go_enter Tryz.func116, Tryz.ntmps116
    go_wp2
    go_ret
    exact ⟨rfl, (Below.refl _ w).alloc (Nat.le_refl _) _⟩
  have r4 : i ≤ 65535 := by omega
  by_cases q5 : k < 0
  · have r5 : ¬ 0 ≤ k := by omega
    clear h
    go_enter Tryz.func116, Tryz.ntmps116
    go_wp2
    go_ret
    exact ⟨rfl, (Below.refl _ w).alloc (Nat.le_refl _) _⟩
  have r5 : 0 ≤ k := by omega
  have r6 : ¬ k ≤ 65535 := by omega
  clear h
  go_enter Tryz.func116, Tryz.ntmps116
  go_wp2
  go_ret
  exact ⟨by simp <;> omega, (Below.refl _ w).alloc (Nat.le_refl _) _⟩
set_option maxHeartbeats 400000 in
theorem inRange_yes (t i k : Int) (w : World) (h : ¬ (t < 1 ∨ 5 < t ∨ i < 0 ∨ 65535 < i ∨ k < 0 ∨ 65535 < k)) :
    Calls Tryz.prog 116 #[.agg #[.int .i64 t, .int .i64 i, .int .i64 k]] w fun e w' => e = .returned (.bool true) ∧ Below w.heap.size w w' := by
  have r1 : 1 ≤ t := by omega
  have r2 : t ≤ 5 := by omega
  have r3 : 0 ≤ i := by omega
  have r4 : i ≤ 65535 := by omega
  have r5 : 0 ≤ k := by omega
  have r6 : k ≤ 65535 := by omega
  clear h
  go_enter Tryz.func116, Tryz.ntmps116
  go_wp2
  go_ret
  exact ⟨by simp <;> omega, (Below.refl _ w).alloc (Nat.le_refl _) _⟩
set_option maxHeartbeats 800000 in
theorem index_any (p : Option Addr) (n c : Nat) (l : List Tr) (w : World) (h : RdG KTr DTr w p n c l) (t i k : Int) :
    Calls Tryz.prog 124 #[.slice p n c, .agg #[.int .i64 t, .int .i64 i, .int .i64 k]] w fun e w' => ∃ r : Int, e = .returned (.int .i64 r) ∧ (0 ≤ r ↔ (⟨t, i, k⟩ : Tr) ∈ l) ∧ Below w.heap.size w w' := by
  have hn := h.le
  have HT := hidden h
  have HTL := hidden h.len
  clear h
  go_enter Tryz.func124, Tryz.ntmps124
  go_wp2_with fail
  go_loopw [8] (fun m wq => ∃ q : Nat, q ≤ n ∧ m = .int .i64 q ∧ (∀ r, r < q → l[r]? ≠ some ⟨t, i, k⟩) ∧ wq.cell? ⟨w.heap.size, 0, none⟩ = some (.int .i64 t) ∧ wq.cell? ⟨w.heap.size, 1, none⟩ = some (.int .i64 i) ∧ wq.cell? ⟨w.heap.size, 2, none⟩ = some (.int .i64 k) ∧ Below w.heap.size w wq) (fun m _ => n - (intOf m).toNat)
  case atStart => exact ⟨0, by omega, rfl, by omega, by go_simp, by go_simp, by go_simp, (Below.refl _ w).alloc (Nat.le_refl _) _⟩
  case round =>
    obtain ⟨q, hq, rfl, hno, y0, y1, y2, hbq⟩ := hrel
    have HNO := hidden hno
    have HBQ := hidden hbq
    have HY0 := hidden y0
    have HY1 := hidden y1
    have HY2 := hidden y2
    clear hno hbq
    by_cases hqj : ¬ q < n
    · obtain rfl : q = n := by omega
      have hnot : (⟨t, i, k⟩ : Tr) ∉ l := by
        intro hm
        obtain ⟨r, hr, he⟩ := List.mem_iff_getElem.1 hm
        exact HNO.out r (by have := HTL.out; omega) (by rw [List.getElem?_eq_getElem hr, he])
      have HN := hidden hnot
      clear hnot y0 y1 y2
      go_wp2
      go_ret
      exact ⟨-1, rfl, ⟨fun h => by omega, fun h => absurd h HN.out⟩, HBQ.out⟩
    replace hqj : q < n := by omega
    have hqj' : (q : Int) < n := by omega
    obtain ⟨g, rfl, hc, hint⟩ := (HT.out.below HBQ.out).cell q (by rw [HTL.out]; omega)
    obtain ⟨z, hz⟩ : ∃ z, l[q]'(by rw [HTL.out]; omega) = z := ⟨_, rfl⟩
    rw [hz] at hc
    have HZ := hidden hz
    obtain ⟨zt, zi, zk⟩ := z
    have z0 := hc 0 _ rfl
    have z1 := hc 1 _ rfl
    have z2 := hc 2 _ rfl
    simp only [KTr, Nat.add_zero] at z0 z1 z2
    clear hc hint hz
    have hqe := fun w => eql_tr w t i k zt zi zk
    by_cases heq : t = zt ∧ i = zi ∧ k = zk
    · obtain ⟨rfl, rfl, rfl⟩ := heq
      have hin : (⟨t, i, k⟩ : Tr) ∈ l := List.mem_iff_getElem.2 ⟨q, by have := HTL.out; omega, HZ.out⟩
      have HIN := hidden hin
      have hqb : (t == t && i == i && k == k) = true := by simp
      simp only [hqb] at hqe
      clear hin hqb
      go_wp2_with fail
      go_region
      go_wp2
      go_ret
      exact ⟨q, rfl, ⟨fun _ => HIN.out, fun _ => by omega⟩, HBQ.out.trans (drew_below ⟨1, rfl⟩)⟩
    · have hqb : (t == zt && i == zi && k == zk) = false := by
        rw [Bool.eq_false_iff]
        intro hh
        simp at hh
        exact heq ⟨hh.1.1, hh.1.2, hh.2⟩
      simp only [hqb] at hqe
      clear hqb
      go_wp2_with fail
      go_region
      go_wp2
      go_roundw
      case rel =>
        refine ⟨q + 1, by omega, by go_num, fun r hr => ?_, HY0.out, HY1.out, HY2.out, HBQ.out.trans (drew_below ⟨1, rfl⟩)⟩
        rcases Nat.lt_succ_iff_lt_or_eq.1 hr with hrq | hrq
        · exact HNO.out r hrq
        · subst hrq
          rw [List.getElem?_eq_getElem (by have := HTL.out; omega), HZ.out]
          intro hh
          simp at hh
          exact heq ⟨hh.1.symm, hh.2.1.symm, hh.2.2.symm⟩
      case measure => simp [intOf]; omega
set_option maxHeartbeats 400000 in
theorem contains_any (p : Option Addr) (n c : Nat) (l : List Tr) (w : World) (h : RdG KTr DTr w p n c l) (t i k : Int) (b : Bool) (hb : b = true ↔ (⟨t, i, k⟩ : Tr) ∈ l) :
    Calls Tryz.prog 117 #[.slice p n c, .agg #[.int .i64 t, .int .i64 i, .int .i64 k]] w fun e w' => e = .returned (.bool b) ∧ Below w.heap.size w w' := by
  have HT := hidden h
  have HB := hidden hb
  clear h hb
  go_enter Tryz.func117, Tryz.ntmps117
  go_wp2_with (go_at_call 124; (with_reducible refine (index_any p n c l _ (HT.out.below ((Below.refl _ w).alloc (Nat.le_refl _) _)) t i k).mono ?_); rintro e w1 ⟨r, rfl, hr, hbel⟩)
  go_ret
  refine ⟨?_, ((Below.refl _ w).alloc (Nat.le_refl _) _).trans (hbel.mono (by simp))⟩
  have e : decide ((⟨t, i, k⟩ : Tr) ∈ l) = b := by
    rw [Bool.eq_iff_iff, HB.out]
    simp
  rw [← e]
  rfl
end Go.Proofs.YtnbkffehhahckaaGreat

namespace Go.Proofs.YtnbkffehhahckaaGreat
open Go.RowKit
set_option linter.unusedVariables false
structure PS (w : World) (k : Nat) (p : Option Addr) (n c : Nat) (xs : List Int) (a : Nat) : Prop where
  cu : Cu w k p n c a
  byt : ∃ W, Byt W p n c xs ∧ Below W.heap.size W w ∧ W.heap.size ≤ k
  le : a ≤ n
section
variable {w w' : World} {k : Nat} {p : Option Addr} {n c : Nat} {xs : List Int} {a b : Nat}
theorem PS.here (h : PS w k p n c xs a) : Byt w p n c xs := by
  obtain ⟨W, h1, h2, _⟩ := h.byt
  exact h1.below h2
theorem PS.next (h : PS w k p n c xs a) (hg : w.grownBy w' (some k)) (hc : Cu w' k p n c (b : Nat)) (hb : b ≤ n) : PS w' k p n c xs b := by
  obtain ⟨W, h1, h2, h3⟩ := h.byt
  exact ⟨hc, ⟨W, h1, h2.grown hg h2.size (fun r hr => by cases hr; exact h3), h3⟩, hb⟩
theorem PS.off {row : Option Nat} (h : PS w k p n c xs a) (hg : w.grownBy w' row) (hr : ∀ r, row = some r → k < r) : PS w' k p n c xs a := by
  obtain ⟨W, h1, h2, h3⟩ := h.byt
  exact ⟨h.cu.grown hg (fun e => by have := hr k e.symm; omega), ⟨W, h1, h2.grown hg h2.size (fun r e => by have := hr r e; omega), h3⟩, h.le⟩
theorem PS.below (h : PS w k p n c xs a) (hb : Below w.heap.size w w') : PS w' k p n c xs a := h.off (row := none) (grown_of_below hb none) (by simp)
theorem PS.lt (h : PS w k p n c xs a) : k < w.heap.size := h.cu.lt
end
theorem pn1 (p : Option Addr) (n c : Nat) (xs : List Int) (w : World) (k a : Nat) (h : PS w k p n c xs a) (v : Int) (hv : xs.getD a 0 = v) :
    Calls Tryz.prog 132 #[.pointer (some ⟨k, 0, none⟩), .int .i64 1] w fun e w' => w.grownBy w' (some k) ∧ ((a + 1 ≤ n ∧ e = .returned (.int .i64 v) ∧ PS w' k p n c xs (a + 1)) ∨ (n < a + 1 ∧ Thrown e)) := by
  refine (pnum_any p n c xs w k a 1 h.cu h.here (by omega) (by omega) h.le _ rfl 1 rfl).mono ?_
  rintro e w' ⟨hg, ⟨h1, rfl, hc⟩ | ⟨h1, ht⟩⟩
  · exact ⟨hg, Or.inl ⟨h1, by rw [num_one _ _ (by have := h.here.len; omega), hv], h.next hg hc h1⟩⟩
  · exact ⟨hg, Or.inr ⟨h1, ht⟩⟩
theorem pn2 (p : Option Addr) (n c : Nat) (xs : List Int) (w : World) (k a : Nat) (h : PS w k p n c xs a) (v : Int) (hv : w2 xs a = v) :
    Calls Tryz.prog 132 #[.pointer (some ⟨k, 0, none⟩), .int .i64 2] w fun e w' => w.grownBy w' (some k) ∧ ((a + 2 ≤ n ∧ e = .returned (.int .i64 v) ∧ PS w' k p n c xs (a + 2)) ∨ (n < a + 2 ∧ Thrown e)) := by
  refine (pnum_any p n c xs w k a 2 h.cu h.here (by omega) (by omega) h.le _ rfl 2 rfl).mono ?_
  rintro e w' ⟨hg, ⟨h1, rfl, hc⟩ | ⟨h1, ht⟩⟩
  · exact ⟨hg, Or.inl ⟨h1, by rw [num_two _ _ (by have := h.here.len; omega), hv], h.next hg hc h1⟩⟩
  · exact ⟨hg, Or.inr ⟨h1, ht⟩⟩
theorem pl (p : Option Addr) (n c : Nat) (xs : List Int) (w : World) (k a : Nat) (h : PS w k p n c xs a) (b : Bool) (hb : b = decide (a < n)) :
    Calls Tryz.prog 126 #[.pointer (some ⟨k, 0, none⟩)] w fun e w' => e = .returned (.bool b) ∧ Below w.heap.size w w' ∧ PS w' k p n c xs a :=
  (left_any p n c w k a h.cu h.here.le b (by rw [hb]; simp)).mono fun e w' ⟨h1, h2⟩ => ⟨h1, h2, h.below h2⟩
theorem pt (p : Option Addr) (n c : Nat) (xs : List Int) (w : World) (k a : Nat) (h : PS w k p n c xs a) (hn : n ≤ 140737488355328) (M : Int) (hM : -9223372036854775808 ≤ M ∧ M ≤ 9223372036854775807) :
    Calls Tryz.prog 133 #[.pointer (some ⟨k, 0, none⟩), .int .i64 M] w fun e w' => w.grownBy w' (some k) ∧ ((0 ≤ M ∧ a + M ≤ n ∧ ∃ q m d, e = .returned (.slice q m d) ∧ Bod w' w.heap.size q m d ((xs.drop a).take M.toNat) ∧ PS w' k p n c xs (a + M.toNat)) ∨ (¬ (0 ≤ M ∧ a + M ≤ n) ∧ Thrown e)) := by
  refine (ptake_any p n c xs w k a h.cu h.here hn h.le M hM).mono ?_
  rintro e w' ⟨hg, ⟨h1, h2, q, m, d, he, hby, hc⟩ | ⟨h1, ht⟩⟩
  · exact ⟨hg, Or.inl ⟨h1, h2, q, m, d, he, hby, h.next hg (by rw [show ((a + M.toNat : Nat) : Int) = a + M by omega]; exact hc) (by omega)⟩⟩
  · exact ⟨hg, Or.inr ⟨h1, ht⟩⟩
def secV (more : Int) (ys : List Int) : Option (List Int × Nat) :=
  if ys.length < 4 then none else if w2 ys 2 < 4 ∨ (ys.length : Int) < w2 ys 2 then none
  else if ys.getD 0 0 ≠ (if (ys.length : Int) = w2 ys 2 then 0 else more) then none else some ((ys.take (w2 ys 2).toNat).drop 4, (w2 ys 2).toNat)
def GotS (w : World) (k : Nat) (p : Option Addr) (n c : Nat) (xs : List Int) (a : Nat) (r : Option (List Int × Nat)) (e : Ending) (w' : World) : Prop :=
  w.grownBy w' (some k) ∧ match r with
  | none => Thrown e
  | some x => ∃ R q m d, e = .returned (.pointer (some ⟨R, 0, none⟩)) ∧ w.heap.size ≤ R ∧ PS w' R q m d x.1 0 ∧ PS w' k p n c xs (a + x.2)
theorem gots_none {w : World} {k : Nat} {p : Option Addr} {n c : Nat} {xs : List Int} {a : Nat} {r : Option (List Int × Nat)} {e : Ending} {w' : World} (hg : w.grownBy w' (some k)) (hr : r = none) (ht : Thrown e) : GotS w k p n c xs a r e w' := by
  subst hr
  exact ⟨hg, ht⟩
theorem getD_dropP (xs : List Int) (a b : Nat) : (xs.drop a).getD b 0 = xs.getD (a + b) 0 := by simp [List.getD_eq_getElem?_getD]
theorem w2_dropP (xs : List Int) (a b : Nat) : w2 (xs.drop a) b = w2 xs (a + b) := by rw [w2, getD_dropP, getD_dropP, w2, Nat.add_assoc]
theorem w2_bdP (xs : List Int) (hr : ∀ x ∈ xs, 0 ≤ x ∧ x ≤ 255) (a : Nat) : 0 ≤ w2 xs a ∧ w2 xs a ≤ 65535 := by
  have h0 := rng_getD hr a
  have h1 := rng_getD hr (a + 1)
  unfold w2
  omega
theorem secV_at (more : Int) (xs : List Int) (n a : Nat) (hl : xs.length = n) (L x0 : Int) (hL : w2 xs (a + 2) = L) (hx : xs.getD a 0 = x0) : secV more (xs.drop a) =
    if n - a < 4 then none else if L < 4 ∨ ((n - a : Nat) : Int) < L then none else if x0 ≠ (if ((n - a : Nat) : Int) = L then 0 else more) then none else some (((xs.drop a).take L.toNat).drop 4, L.toNat) := by
  subst hL hx hl
  have e : xs.getD a 0 = (xs.drop a).getD 0 0 := by rw [getD_dropP]; rfl
  rw [e]
  unfold secV
  rw [List.length_drop, w2_dropP]
set_option maxHeartbeats 800000 in
theorem section_any (more : Int) (p : Option Addr) (n c : Nat) (xs : List Int) (w : World) (k a : Nat) (h : PS w k p n c xs a) (hn : n ≤ 1048576) (r : Option (List Int × Nat)) (hr : secV more (xs.drop a) = r) :
    Calls Tryz.prog 127 #[.pointer (some ⟨k, 0, none⟩), .int .i64 more] w (GotS w k p n c xs a r) := by
  have hlen := h.here.len
  have hrng := h.here.rng
  have hd : (xs.drop a).length = n - a := by simp [hlen]
  have hle := h.le
  obtain ⟨L, hL⟩ : ∃ L, w2 xs (a + 2) = L := ⟨_, rfl⟩
  have hLb := w2_bdP xs hrng (a + 2)
  rw [hL] at hLb
  obtain ⟨x0, hx0⟩ : ∃ x0, xs.getD a 0 = x0 := ⟨_, rfl⟩
  have hxb := rng_getD hrng a
  rw [hx0] at hxb
  rw [secV_at more xs n a hlen L x0 hL hx0] at hr
  obtain ⟨x1, hx1⟩ : ∃ x1, xs.getD (a + 1) 0 = x1 := ⟨_, rfl⟩
  have HR := hidden hr
  have HP := hidden h
  have HX0 := hidden hx0
  have HX1 := hidden hx1
  have HL := hidden hL
  clear hr h hx0 hx1 hL hrng hlen hd
  go_enter Tryz.func127, Tryz.ntmps127
  go_wp2_with fail
  go_at_call 132
  (with_reducible refine (pn1 p n c xs w k a HP.out x0 HX0.out).mono ?_)
  rintro e w1 ⟨hg1, ⟨hi1, rfl, hps1⟩ | ⟨hi1, ht⟩⟩
  rotate_left
  · subst ht
    exact ⟨rfl, gots_none hg1 (by rw [← HR.out, if_pos (by omega)]) rfl⟩
  have HP1 := hidden hps1
  have HG1 := hidden hg1
  clear hps1 hg1
  go_wp2_with fail
  go_at_call 132
  (with_reducible refine (pn1 p n c xs w1 k (a + 1) HP1.out x1 HX1.out).mono ?_)
  rintro e w2 ⟨hg2, ⟨hi2, rfl, hps2⟩ | ⟨hi2, ht⟩⟩
  rotate_left
  · subst ht
    exact ⟨rfl, gots_none (grown_trans HG1.out hg2) (by rw [← HR.out, if_pos (by omega)]) rfl⟩
  have HP2 := hidden hps2
  have HG2 := hidden (grown_trans HG1.out hg2)
  clear hps2 hg2 HG1 HP1
  go_wp2_with fail
  go_at_call 132
  (with_reducible refine (pn2 p n c xs w2 k (a + 2) HP2.out L HL.out).mono ?_)
  rintro e w3 ⟨hg3, ⟨hi3, rfl, hps3⟩ | ⟨hi3, ht⟩⟩
  rotate_left
  · subst ht
    exact ⟨rfl, gots_none (grown_trans HG2.out hg3) (by rw [← HR.out, if_pos (by omega)]) rfl⟩
  have HP3 := hidden hps3
  have HG3 := hidden (grown_trans HG2.out hg3)
  clear hps3 hg3 HG2 HP2
  have HR4 := hidden HR.out
  have hr := HR.out
  rw [if_neg (by omega)] at hr
  have HR4 := hidden hr
  clear hr HR
  go_wp2_with fail
  go_at_call 133
  (with_reducible refine (pt p n c xs w3 k (a + 2 + 2) HP3.out (by omega) (L - 4) (by omega)).mono ?_)
  rintro e w4 ⟨hg4, ⟨hi4, hi5, q, m, d, rfl, hby, hps4⟩ | ⟨hi4, ht⟩⟩
  rotate_left
  · subst ht
    exact ⟨rfl, gots_none (grown_trans HG3.out hg4) (by rw [← HR4.out, if_pos (by omega)]) rfl⟩
  have hr := HR4.out
  rw [if_neg (by omega)] at hr
  obtain ⟨l, rfl⟩ := Int.eq_ofNat_of_zero_le hLb.1
  have e1 : ((xs.drop a).take l).drop 4 = (xs.drop (a + 2 + 2)).take ((l : Int) - 4).toNat := by
    rw [show ((l : Int) - 4).toNat = l - 4 by omega, List.drop_take, List.drop_drop]
  rw [Int.toNat_natCast, e1] at hr
  have hm := hby.byt.len
  have hq : PS (w4.alloc (.cells #[.slice q m d, .int .i64 0] 196)) w4.heap.size q m d ((xs.drop (a + 2 + 2)).take ((l : Int) - 4).toNat) 0 :=
    ⟨Cu.new _ _ _ _ _ _, ⟨w4, hby.byt, (Below.refl _ _).alloc (Nat.le_refl _) _, Nat.le_refl _⟩, Nat.zero_le _⟩
  have hp5 := hps4.below ((Below.refl _ _).alloc (Nat.le_refl _) (.cells #[.slice q m d, .int .i64 0] 196))
  rw [show a + 2 + 2 + ((l : Int) - 4).toNat = a + l by omega] at hp5
  have hg5 := grown_alloc_new (grown_trans HG3.out hg4) (.cells #[.slice q m d, .int .i64 0] 196)
  have hs5 : w.heap.size ≤ w4.heap.size := (grown_trans HG3.out hg4).size
  generalize (xs.drop (a + 2 + 2)).take ((l : Int) - 4).toNat = ys at hr hq
  have HQ := hidden hq
  have HP5 := hidden hp5
  have HG5 := hidden hg5
  have HR5 := hidden hr
  clear hq hp5 hg5 hr hby hps4 hg4 HG3 HP3 HR4 e1 hm
  obtain ⟨b, hb⟩ : ∃ b, b = decide (a + l < n) := ⟨_, rfl⟩
  have HB := hidden hb
  clear hb
  go_wp2_with fail
  go_at_call 126
  (with_reducible refine (pl p n c xs _ k (a + l) HP5.out b HB.out).mono ?_)
  rintro e w6 ⟨rfl, hb6, hp6⟩
  have HP6 := hidden hp6
  have HQ6 := hidden (HQ.out.below hb6)
  have HG6 := hidden (grown_trans HG5.out (grown_of_below hb6 _))
  clear hp6 hb6
  obtain ⟨mk, hmk⟩ : ∃ mk, (if b = true then more else 0) = mk := ⟨_, rfl⟩
  have HMK := hidden hmk
  clear hmk
  go_wp2_with (go_at_call 89; (with_reducible refine (mark_any more b _).mono ?_); rintro e w7 ⟨rfl, rfl⟩; rw [HMK.out])
  go_at_call 134
  (refine (need_any _ _).mono ?_)
  have hcond : (x0 == mk) = true ↔ ¬ x0 ≠ (if ((n - a : Nat) : Int) = l then 0 else more) := by
    rw [← HMK.out, HB.out]
    by_cases hh : a + l < n
    · rw [if_neg (show ¬ ((n - a : Nat) : Int) = l by omega)]
      simp [hh]
    · rw [if_pos (show ((n - a : Nat) : Int) = l by omega)]
      simp [hh]
  rintro e w8 ⟨rfl, ⟨ht, rfl⟩ | ⟨ht, hth⟩⟩
  · have hr := HR5.out
    rw [if_neg (hcond.1 ht)] at hr
    have HR6 := hidden hr
    clear hcond ht hr
    go_wp2
    go_ret
    rw [← HR6.out]
    exact ⟨HG6.out, _, q, m, d, rfl, hs5, HQ6.out, HP6.out⟩
  · subst hth
    refine ⟨rfl, gots_none HG6.out ?_ rfl⟩
    rw [← HR5.out, if_pos]
    intro h
    rw [hcond.2 (by simpa using h)] at ht
    cases ht
end Go.Proofs.YtnbkffehhahckaaGreat
