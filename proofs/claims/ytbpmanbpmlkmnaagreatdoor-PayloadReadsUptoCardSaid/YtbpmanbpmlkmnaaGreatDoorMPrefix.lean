/-
  The first and the last address of a prefix, as the document's own text computes them: both are valid, and the address lies between them.
-/
import Derived.Test.YtbpmanbpmlkmnaaGreatDoorMRSel
import Derived.Test.YtbpmanbpmlkmnaaGreatDoorMMkAddr
import Derived.Laws.BitsLemmas
namespace Go.Proofs.YtbpmanbpmlkmnaaGreatDoor
open Go.RowKit
set_option linter.unusedVariables false

theorem andNot_le (x y : Int) (h0 : 0 ≤ x) (h1 : x ≤ 18446744073709551615) : bits .andNot .u64 x y ≤ x := by
  obtain ⟨a, rfl⟩ := Int.eq_ofNat_of_zero_le h0
  have h2 : (BitVec.ofInt 64 (a : Int)).toNat = a := by
    rw [BitVec.ofInt_natCast, BitVec.toNat_ofNat]; exact Nat.mod_eq_of_lt (by omega)
  show IntKind.u64.wrap ((BitVec.ofInt 64 (a : Int) &&& ~~~(BitVec.ofInt 64 y)).toNat : Int) ≤ _
  rw [BitVec.toNat_and, h2, IntKind.wrap_u64]
  have := Nat.and_le_left (n := a) (m := (~~~(BitVec.ofInt 64 y)).toNat)
  omega
theorem or_ge (x y : Int) (h0 : 0 ≤ x) (h1 : x ≤ 18446744073709551615) : x ≤ bits .or .u64 x y := by
  obtain ⟨a, rfl⟩ := Int.eq_ofNat_of_zero_le h0
  have h2 : (BitVec.ofInt 64 (a : Int)).toNat = a := by
    rw [BitVec.ofInt_natCast, BitVec.toNat_ofNat]; exact Nat.mod_eq_of_lt (by omega)
  show _ ≤ IntKind.u64.wrap ((BitVec.ofInt 64 (a : Int) ||| BitVec.ofInt 64 y).toNat : Int)
  have h3 := (BitVec.ofInt 64 (a : Int) ||| BitVec.ofInt 64 y).isLt
  rw [BitVec.toNat_or, h2] at h3
  rw [BitVec.toNat_or, h2]
  have h4 := Nat.left_le_or (n := a) (m := (BitVec.ofInt 64 y).toNat)
  rw [IntKind.wrap_u64]
  omega
theorem or_lt32 (x y : Int) (h0 : 0 ≤ x) (h1 : x ≤ 4294967295) (h2 : 0 ≤ y) (h3 : y ≤ 4294967295) : bits .or .u64 x y ≤ 4294967295 := by
  obtain ⟨a, rfl⟩ := Int.eq_ofNat_of_zero_le h0
  obtain ⟨b, rfl⟩ := Int.eq_ofNat_of_zero_le h2
  rw [(bits_nat .u64 64 (by decide) (fun n h4 h5 => by rw [IntKind.wrap_u64]; omega) a b (by omega) (by omega)).2]
  have := Nat.or_lt_two_pow (x := a) (y := b) (n := 32) (by omega) (by omega)
  omega

/-- What the first and the last address have to do with the address. -/
structure PreA (a lo hi : Ad) : Prop where
  f1 : lo.f = a.f
  f2 : hi.f = a.f
  h1 : 0 ≤ lo.h ∧ lo.h ≤ a.h
  h2 : a.h ≤ hi.h ∧ hi.h ≤ 18446744073709551615
  l1 : 0 ≤ lo.l ∧ lo.l ≤ a.l
  l2 : a.l ≤ hi.l ∧ hi.l ≤ 18446744073709551615
  four : a.f = 4 → hi.h = 0 ∧ hi.l ≤ 4294967295
def bitsF (f : Int) : Nat := if f = 4 then 32 else 128
theorem rbits_any (f : Int) (w : World) : Calls Tryz.prog 119 #[.int .i64 f] w fun e w' => e = .returned (.int .i64 (bitsF f)) ∧ w = w' := by
  unfold bitsF
  by_cases h : f = 4
  · subst h
    go_enter Tryz.func119, Tryz.ntmps119
    go_wp2
    go_ret
    exact ⟨rfl, rfl⟩
  · have h' : (f == 4) = false := by simpa using h
    rw [if_neg h]
    go_enter Tryz.func119, Tryz.ntmps119
    go_wp2
    go_ret
    exact ⟨rfl, rfl⟩

/-- Where Prefix stands: its argument, its two results, its two addresses. -/
structure PF (W w : World) (a : Ad) (g1 g2 : Nat) (lo hi : Ad) : Prop where
  bel : Below W.heap.size W w
  A : AdIn w W.heap.size a
  R : AdIn w (W.heap.size + 1) zeroA
  S : AdIn w (W.heap.size + 1 + 1) zeroA
  ge1 : W.heap.size + 1 + 1 < g1
  ge2 : W.heap.size + 1 + 1 < g2
  ne : g1 ≠ g2
  L : AdIn w g1 lo
  H : AdIn w g2 hi
  pre : PreA a lo hi
theorem PF.below {W w w' : World} {a : Ad} {g1 g2 : Nat} {lo hi : Ad} (h : PF W w a g1 g2 lo hi) (hb : Below w.heap.size w w') : PF W w' a g1 g2 lo hi :=
  ⟨h.bel.trans (hb.mono h.bel.size), h.A.below hb, h.R.below hb, h.S.below hb, h.ge1, h.ge2, h.ne, h.L.below hb, h.H.below hb, h.pre⟩

theorem PreA.self {a : Ad} (fit : FitA a) (ok : validA a = true) : PreA a a a := by
  have h1 := fit.h
  have h2 := fit.l
  refine ⟨rfl, rfl, ⟨by omega, by omega⟩, ⟨by omega, by omega⟩, ⟨by omega, by omega⟩, ⟨by omega, by omega⟩, fun e => ?_⟩
  unfold validA at ok
  rw [e] at ok
  simp at ok
  omega
theorem PF.start1 {W w1 : World} {a : Ad} (hb : Below W.heap.size W w1) (hA : AdIn w1 W.heap.size a) (hR : AdIn w1 (W.heap.size + 1) zeroA) (hS : AdIn w1 (W.heap.size + 1 + 1) zeroA) (fit : FitA a) (ok : validA a = true) :
    PF W ((w1.alloc (.cells #[.int .i64 a.f, .int .u64 a.h, .int .u64 a.l] 96)).alloc (.cells #[.int .i64 a.f, .int .u64 a.h, .int .u64 a.l] 96)).drew a (w1.heap.size) (w1.heap.size + 1) a a := by
  have hl := hS.lt
  exact ⟨((hb.alloc hb.size _).alloc (by have := hb.size; simp; omega) _).trans (drew_below ⟨1, rfl⟩), ((hA.alloc _).alloc _).below (drew_below ⟨1, rfl⟩), ((hR.alloc _).alloc _).below (drew_below ⟨1, rfl⟩), ((hS.alloc _).alloc _).below (drew_below ⟨1, rfl⟩), by omega, by omega, by omega, ((AdIn.new w1 a 96).alloc (.cells #[.int .i64 a.f, .int .u64 a.h, .int .u64 a.l] 96)).below (w' := ((w1.alloc (.cells #[.int .i64 a.f, .int .u64 a.h, .int .u64 a.l] 96)).alloc (.cells #[.int .i64 a.f, .int .u64 a.h, .int .u64 a.l] 96)).drew) (drew_below ⟨1, rfl⟩), (by have := (AdIn.new (w1.alloc (.cells #[.int .i64 a.f, .int .u64 a.h, .int .u64 a.l] 96)) a 96).below (w' := ((w1.alloc (.cells #[.int .i64 a.f, .int .u64 a.h, .int .u64 a.l] 96)).alloc (.cells #[.int .i64 a.f, .int .u64 a.h, .int .u64 a.l] 96)).drew) (drew_below ⟨1, rfl⟩); simpa using this), PreA.self fit ok⟩
theorem PF.start2 {W w1 : World} {a : Ad} (hb : Below W.heap.size W w1) (hA : AdIn w1 W.heap.size a) (hR : AdIn w1 (W.heap.size + 1) zeroA) (hS : AdIn w1 (W.heap.size + 1 + 1) zeroA) (fit : FitA a) (ok : validA a = true) :
    PF W ((w1.alloc (.cells #[.int .i64 a.f, .int .u64 a.h, .int .u64 a.l] 96)).alloc (.cells #[.int .i64 a.f, .int .u64 a.h, .int .u64 a.l] 96)).drew a (w1.heap.size + 1) (w1.heap.size) a a := by
  have hl := hS.lt
  exact ⟨((hb.alloc hb.size _).alloc (by have := hb.size; simp; omega) _).trans (drew_below ⟨1, rfl⟩), ((hA.alloc _).alloc _).below (drew_below ⟨1, rfl⟩), ((hR.alloc _).alloc _).below (drew_below ⟨1, rfl⟩), ((hS.alloc _).alloc _).below (drew_below ⟨1, rfl⟩), by omega, by omega, by omega, (by have := (AdIn.new (w1.alloc (.cells #[.int .i64 a.f, .int .u64 a.h, .int .u64 a.l] 96)) a 96).below (w' := ((w1.alloc (.cells #[.int .i64 a.f, .int .u64 a.h, .int .u64 a.l] 96)).alloc (.cells #[.int .i64 a.f, .int .u64 a.h, .int .u64 a.l] 96)).drew) (drew_below ⟨1, rfl⟩); simpa using this), ((AdIn.new w1 a 96).alloc (.cells #[.int .i64 a.f, .int .u64 a.h, .int .u64 a.l] 96)).below (w' := ((w1.alloc (.cells #[.int .i64 a.f, .int .u64 a.h, .int .u64 a.l] 96)).alloc (.cells #[.int .i64 a.f, .int .u64 a.h, .int .u64 a.l] 96)).drew) (drew_below ⟨1, rfl⟩), PreA.self fit ok⟩
theorem PF.ret1 {W w : World} {a : Ad} {g1 g2 : Nat} {lo hi : Ad} (h : PF W w a g1 g2 lo hi) : AdIn ((((((w.setCell ⟨W.heap.size + 1, 0, none⟩ (.int .i64 lo.f)).setCell ⟨W.heap.size + 1, 1, none⟩ (.int .u64 lo.h)).setCell ⟨W.heap.size + 1, 2, none⟩ (.int .u64 lo.l)).setCell ⟨W.heap.size + 1 + 1, 0, none⟩ (.int .i64 hi.f)).setCell ⟨W.heap.size + 1 + 1, 1, none⟩ (.int .u64 hi.h)).setCell ⟨W.heap.size + 1 + 1, 2, none⟩ (.int .u64 hi.l)).drew (W.heap.size + 1) lo ∧ AdIn ((((((w.setCell ⟨W.heap.size + 1, 0, none⟩ (.int .i64 lo.f)).setCell ⟨W.heap.size + 1, 1, none⟩ (.int .u64 lo.h)).setCell ⟨W.heap.size + 1, 2, none⟩ (.int .u64 lo.l)).setCell ⟨W.heap.size + 1 + 1, 0, none⟩ (.int .i64 hi.f)).setCell ⟨W.heap.size + 1 + 1, 1, none⟩ (.int .u64 hi.h)).setCell ⟨W.heap.size + 1 + 1, 2, none⟩ (.int .u64 hi.l)).drew (W.heap.size + 1 + 1) hi ∧ Below W.heap.size W ((((((w.setCell ⟨W.heap.size + 1, 0, none⟩ (.int .i64 lo.f)).setCell ⟨W.heap.size + 1, 1, none⟩ (.int .u64 lo.h)).setCell ⟨W.heap.size + 1, 2, none⟩ (.int .u64 lo.l)).setCell ⟨W.heap.size + 1 + 1, 0, none⟩ (.int .i64 hi.f)).setCell ⟨W.heap.size + 1 + 1, 1, none⟩ (.int .u64 hi.h)).setCell ⟨W.heap.size + 1 + 1, 2, none⟩ (.int .u64 hi.l)).drew := by
  refine ⟨?_, ?_, ((((((h.bel.setCell (p := ⟨W.heap.size + 1, 0, none⟩) (by simp <;> omega) _).setCell (p := ⟨W.heap.size + 1, 1, none⟩) (by simp <;> omega) _).setCell (p := ⟨W.heap.size + 1, 2, none⟩) (by simp <;> omega) _).setCell (p := ⟨W.heap.size + 1 + 1, 0, none⟩) (by simp <;> omega) _).setCell (p := ⟨W.heap.size + 1 + 1, 1, none⟩) (by simp <;> omega) _).setCell (p := ⟨W.heap.size + 1 + 1, 2, none⟩) (by simp <;> omega) _).trans (drew_below ⟨1, rfl⟩)⟩
  · obtain ⟨c0, c1, c2, fr⟩ := h.R
    exact ⟨by go_simp, by go_simp, by go_simp, fun j => by go_simp⟩
  · obtain ⟨c0, c1, c2, fr⟩ := h.S
    exact ⟨by go_simp, by go_simp, by go_simp, fun j => by go_simp⟩
theorem PF.ret2 {W w : World} {a : Ad} {g1 g2 : Nat} {lo hi : Ad} (h : PF W w a g1 g2 lo hi) : AdIn ((((((w.setCell ⟨W.heap.size + 1 + 1, 0, none⟩ (.int .i64 hi.f)).setCell ⟨W.heap.size + 1 + 1, 1, none⟩ (.int .u64 hi.h)).setCell ⟨W.heap.size + 1 + 1, 2, none⟩ (.int .u64 hi.l)).setCell ⟨W.heap.size + 1, 0, none⟩ (.int .i64 lo.f)).setCell ⟨W.heap.size + 1, 1, none⟩ (.int .u64 lo.h)).setCell ⟨W.heap.size + 1, 2, none⟩ (.int .u64 lo.l)).drew (W.heap.size + 1) lo ∧ AdIn ((((((w.setCell ⟨W.heap.size + 1 + 1, 0, none⟩ (.int .i64 hi.f)).setCell ⟨W.heap.size + 1 + 1, 1, none⟩ (.int .u64 hi.h)).setCell ⟨W.heap.size + 1 + 1, 2, none⟩ (.int .u64 hi.l)).setCell ⟨W.heap.size + 1, 0, none⟩ (.int .i64 lo.f)).setCell ⟨W.heap.size + 1, 1, none⟩ (.int .u64 lo.h)).setCell ⟨W.heap.size + 1, 2, none⟩ (.int .u64 lo.l)).drew (W.heap.size + 1 + 1) hi ∧ Below W.heap.size W ((((((w.setCell ⟨W.heap.size + 1 + 1, 0, none⟩ (.int .i64 hi.f)).setCell ⟨W.heap.size + 1 + 1, 1, none⟩ (.int .u64 hi.h)).setCell ⟨W.heap.size + 1 + 1, 2, none⟩ (.int .u64 hi.l)).setCell ⟨W.heap.size + 1, 0, none⟩ (.int .i64 lo.f)).setCell ⟨W.heap.size + 1, 1, none⟩ (.int .u64 lo.h)).setCell ⟨W.heap.size + 1, 2, none⟩ (.int .u64 lo.l)).drew := by
  refine ⟨?_, ?_, ((((((h.bel.setCell (p := ⟨W.heap.size + 1 + 1, 0, none⟩) (by simp <;> omega) _).setCell (p := ⟨W.heap.size + 1 + 1, 1, none⟩) (by simp <;> omega) _).setCell (p := ⟨W.heap.size + 1 + 1, 2, none⟩) (by simp <;> omega) _).setCell (p := ⟨W.heap.size + 1, 0, none⟩) (by simp <;> omega) _).setCell (p := ⟨W.heap.size + 1, 1, none⟩) (by simp <;> omega) _).setCell (p := ⟨W.heap.size + 1, 2, none⟩) (by simp <;> omega) _).trans (drew_below ⟨1, rfl⟩)⟩
  · obtain ⟨c0, c1, c2, fr⟩ := h.R
    exact ⟨by go_simp, by go_simp, by go_simp, fun j => by go_simp⟩
  · obtain ⟨c0, c1, c2, fr⟩ := h.S
    exact ⟨by go_simp, by go_simp, by go_simp, fun j => by go_simp⟩
theorem PF.stepH {W w : World} {a : Ad} {g1 g2 : Nat} {lo hi : Ad} (h : PF W w a g1 g2 lo hi) (fit : FitA a) (hf : a.f ≠ 4) (X Y : Int) :
    PF W ((w.setCell ⟨g1, 1, none⟩ (.int .u64 (bits .andNot .u64 lo.h X))).setCell ⟨g2, 1, none⟩ (.int .u64 (bits .or .u64 hi.h Y))) a g1 g2 { lo with h := bits .andNot .u64 lo.h X } { hi with h := bits .or .u64 hi.h Y } := by
  have k1 := h.ge1
  have k2 := h.ge2
  have k3 := h.ne
  have p := h.pre
  have q1 := p.h1
  have q2 := p.h2
  have q3 := fit.h
  have r1 := andNot_le lo.h X (by omega) (by omega)
  have r2 := bits_lo_u64 .andNot lo.h X
  have r3 := or_ge hi.h Y (by omega) (by omega)
  have r4 := bits_hi_u64 .or hi.h Y
  exact ⟨(h.bel.setCell (p := ⟨g1, 1, none⟩) (by simp; omega) _).setCell (p := ⟨g2, 1, none⟩) (by simp; omega) _, (h.A.set_ne _ _ _ (by omega)).set_ne _ _ _ (by omega), (h.R.set_ne _ _ _ (by omega)).set_ne _ _ _ (by omega), (h.S.set_ne _ _ _ (by omega)).set_ne _ _ _ (by omega), k1, k2, k3,
    (h.L.setH _).set_ne _ _ _ k3, (h.H.set_ne _ _ _ (Ne.symm k3)).setH _, ⟨p.f1, p.f2, ⟨r2, by simp only; omega⟩, ⟨by simp only; omega, r4⟩, p.l1, p.l2, fun e => absurd e hf⟩⟩
theorem PF.stepL {W w : World} {a : Ad} {g1 g2 : Nat} {lo hi : Ad} (h : PF W w a g1 g2 lo hi) (fit : FitA a) (X Y : Int) (hY : a.f = 4 → 0 ≤ Y ∧ Y ≤ 4294967295) :
    PF W ((w.setCell ⟨g1, 2, none⟩ (.int .u64 (bits .andNot .u64 lo.l X))).setCell ⟨g2, 2, none⟩ (.int .u64 (bits .or .u64 hi.l Y))) a g1 g2 { lo with l := bits .andNot .u64 lo.l X } { hi with l := bits .or .u64 hi.l Y } := by
  have k1 := h.ge1
  have k2 := h.ge2
  have k3 := h.ne
  have p := h.pre
  have q1 := p.l1
  have q2 := p.l2
  have q3 := fit.l
  have r1 := andNot_le lo.l X (by omega) (by omega)
  have r2 := bits_lo_u64 .andNot lo.l X
  have r3 := or_ge hi.l Y (by omega) (by omega)
  have r4 := bits_hi_u64 .or hi.l Y
  exact ⟨(h.bel.setCell (p := ⟨g1, 2, none⟩) (by simp; omega) _).setCell (p := ⟨g2, 2, none⟩) (by simp; omega) _, (h.A.set_ne _ _ _ (by omega)).set_ne _ _ _ (by omega), (h.R.set_ne _ _ _ (by omega)).set_ne _ _ _ (by omega), (h.S.set_ne _ _ _ (by omega)).set_ne _ _ _ (by omega), k1, k2, k3,
    (h.L.setL _).set_ne _ _ _ k3, (h.H.set_ne _ _ _ (Ne.symm k3)).setL _, ⟨p.f1, p.f2, p.h1, p.h2, ⟨r2, by simp only; omega⟩, ⟨by simp only; omega, r4⟩, fun e => ⟨(p.four e).1, or_lt32 _ _ (by omega) (p.four e).2 (hY e).1 (hY e).2⟩⟩⟩
theorem pow32 (k : Nat) (hk : k ≤ 31) : 0 ≤ IntKind.u64.wrap (2 ^ k) ∧ IntKind.u64.wrap (2 ^ k) ≤ 4294967295 := by
  have h1 : (2 : Nat) ^ k ≤ 2 ^ 31 := Nat.pow_le_pow_right (by decide) hk
  have h2 : ((2 : Int) ^ k) = ((2 ^ k : Nat) : Int) := by simp
  rw [h2]
  generalize (2 : Nat) ^ k = m at *
  rw [IntKind.wrap_u64]
  omega
theorem ret_ad3 {fn : Func} {R : Ending → World → Prop} {a : Act} {w : World} {p q u : Nat} {g1 g2 : Nat} {x y : Ad} {v : Value} (h : fn.results = #[.cell p 96, .cell q 96, .tmp u]) (hp : a.tmps.getD p undef = .pointer (some ⟨g1, 0, none⟩)) (hq : a.tmps.getD q undef = .pointer (some ⟨g2, 0, none⟩)) (hu : a.tmps.getD u undef = v) (hd : a.defers = [])
    (hx : AdIn w g1 x) (hy : AdIn w g2 y) (hR : R (.returned (.tuple #[(.agg #[.int .i64 x.f, .int .u64 x.h, .int .u64 x.l]), (.agg #[.int .i64 y.f, .int .u64 y.h, .int .u64 y.l]), v])) w) : bodyPost Tryz.prog fn R .ret a w := by
  refine bodyPost_ret (v := .tuple #[(.agg #[.int .i64 x.f, .int .u64 x.h, .int .u64 x.l]), (.agg #[.int .i64 y.f, .int .u64 y.h, .int .u64 y.l]), v]) ?_ hd hR
  rw [Array.getD_eq_getD_getElem?] at hp hq hu
  simp [results, h, hp, hq, hu, asAddr, load_ad hx, load_ad hy, Result.andThen]
theorem ret_ad2 {fn : Func} {R : Ending → World → Prop} {a : Act} {w : World} {p q : Nat} {g1 g2 : Nat} {x y : Ad} (h : fn.results = #[.cell p 96, .cell q 96]) (hp : a.tmps.getD p undef = .pointer (some ⟨g1, 0, none⟩)) (hq : a.tmps.getD q undef = .pointer (some ⟨g2, 0, none⟩)) (hd : a.defers = [])
    (hx : AdIn w g1 x) (hy : AdIn w g2 y) (hR : R (.returned (.tuple #[(.agg #[.int .i64 x.f, .int .u64 x.h, .int .u64 x.l]), (.agg #[.int .i64 y.f, .int .u64 y.h, .int .u64 y.l])])) w) : bodyPost Tryz.prog fn R .ret a w := by
  refine bodyPost_ret (v := .tuple #[(.agg #[.int .i64 x.f, .int .u64 x.h, .int .u64 x.l]), (.agg #[.int .i64 y.f, .int .u64 y.h, .int .u64 y.l])]) ?_ hd hR
  rw [Array.getD_eq_getD_getElem?] at hp hq
  simp [results, h, hp, hq, asAddr, load_ad hx, load_ad hy, Result.andThen]

set_option maxHeartbeats 1600000 in
set_option maxRecDepth 100000 in
theorem prefix_any (a : Ad) (fit : FitA a) (ok : validA a = true) (n : Int) (hn : 0 ≤ n ∧ n ≤ bitsF a.f) (w : World) :
    Calls Tryz.prog 107 #[(.agg #[.int .i64 a.f, .int .u64 a.h, .int .u64 a.l]), .int .i64 n] w fun e w' => ∃ lo hi : Ad, e = .returned (.tuple #[(.agg #[.int .i64 lo.f, .int .u64 lo.h, .int .u64 lo.l]), (.agg #[.int .i64 hi.f, .int .u64 hi.h, .int .u64 hi.l]), .int .i64 0]) ∧ PreA a lo hi ∧ Below w.heap.size w w' := by
  obtain ⟨n, rfl⟩ := Int.eq_ofNat_of_zero_le hn.1
  have HV := hidden (rvalid_any a)
  rw [ok] at HV
  have HBI := hidden (rbits_any a.f)
  have hB : bitsF a.f ≤ 128 := by unfold bitsF; split <;> omega
  have hB4 : a.f = 4 → bitsF a.f = 32 := fun h => by unfold bitsF; rw [if_pos h]
  have HB4 := hidden hB4
  have hnn : n ≤ bitsF a.f := by omega
  have HFIT := hidden fit
  have HOK := hidden ok
  generalize bitsF a.f = B at *
  clear hB4 ok fit hn
  have q0 : ¬ (n : Int) < 0 := by omega
  have q1 : ¬ B < n := by omega
  have q2 : decide ((n : Int) < 0) = false := by simp
  have q3 : decide (B < n) = false := by simpa using hnn
  have hB0 := hidden (below_three (w := w) (.cells #[.int .i64 a.f, .int .u64 a.h, .int .u64 a.l] 96) (.cells #[.int .i64 0, .int .u64 0, .int .u64 0] 96) (.cells #[.int .i64 0, .int .u64 0, .int .u64 0] 96))
  have HA0 := hidden (((AdIn.new w a 96).alloc (.cells #[.int .i64 0, .int .u64 0, .int .u64 0] 96)).alloc (.cells #[.int .i64 0, .int .u64 0, .int .u64 0] 96))
  have HR0 : Hid (AdIn (((w.alloc (.cells #[.int .i64 a.f, .int .u64 a.h, .int .u64 a.l] 96)).alloc (.cells #[.int .i64 0, .int .u64 0, .int .u64 0] 96)).alloc (.cells #[.int .i64 0, .int .u64 0, .int .u64 0] 96)) (w.heap.size + 1) zeroA) := hidden (by
    have := (AdIn.new (w.alloc (.cells #[.int .i64 a.f, .int .u64 a.h, .int .u64 a.l] 96)) zeroA 96).alloc (.cells #[.int .i64 0, .int .u64 0, .int .u64 0] 96)
    simpa [zeroA] using this)
  have HS0 : Hid (AdIn (((w.alloc (.cells #[.int .i64 a.f, .int .u64 a.h, .int .u64 a.l] 96)).alloc (.cells #[.int .i64 0, .int .u64 0, .int .u64 0] 96)).alloc (.cells #[.int .i64 0, .int .u64 0, .int .u64 0] 96)) (w.heap.size + 1 + 1) zeroA) := hidden (by
    have := (AdIn.new ((w.alloc (.cells #[.int .i64 a.f, .int .u64 a.h, .int .u64 a.l] 96)).alloc (.cells #[.int .i64 0, .int .u64 0, .int .u64 0] 96)) zeroA 96)
    simpa [zeroA] using this)
  go_enter Tryz.func107, Tryz.ntmps107
  go_upto_region 5 with (first
    | (go_at_call 82; (with_reducible refine (HV.out _).mono ?_); rintro e w1 ⟨rfl, hb⟩; have HB1 := hidden (hB0.out.trans (hb.mono hB0.out.size)); have HA1 := hidden (HA0.out.below hb); have HR1 := hidden (HR0.out.below hb); have HS1 := hidden (HS0.out.below hb); obtain ⟨a0, a1, a2, af⟩ := HA1.out; clear hb HA0 HR0 HS0 hB0)
    | (go_at_call 119; (with_reducible refine (HBI.out _).mono ?_); rintro e w1 ⟨rfl, rfl⟩))
  go_cut [7, 8] from 27 to 28 (fun u v wx => ∃ g1 g2, u = .pointer (some ⟨g1, 0, none⟩) ∧ v = .pointer (some ⟨g2, 0, none⟩) ∧ PF w wx a g1 g2 a a)
  case first =>
    have hs1 := HS1.out.lt
    have ha1 := HA1.out.lt
    go_region
    all_goals go_wp2_with fail
    all_goals go_meet
    all_goals (case rel => first
      | exact ⟨_, _, rfl, rfl, PF.start1 HB1.out HA1.out HR1.out HS1.out HFIT.out HOK.out⟩
      | exact ⟨_, _, rfl, rfl, PF.start2 HB1.out HA1.out HR1.out HS1.out HFIT.out HOK.out⟩)
  case rest =>
    obtain ⟨g1, g2, rfl, rfl, hpf⟩ := hcut
    have HP0 := hidden hpf
    clear hpf HA1 HR1 HS1 HB1 a0 a1 a2 af
    go_wp2_with fail
    go_loopw [9] (fun i wx => ∃ (j : Nat) (lo hi : Ad), i = .int .i64 j ∧ j ≤ B ∧ PF w wx a g1 g2 lo hi) (fun i _ => B - (intOf i).toNat)
    case atStart => exact ⟨n, a, a, rfl, hnn, HP0.out⟩
    case round =>
      obtain ⟨j, lo, hi, rfl, hj, hpf⟩ := hrel
      have HP := hidden hpf
      obtain ⟨a0, a1, a2, af⟩ := hpf.A
      clear hpf HP0
      by_cases hjB : j < B
      · have hjB' : (j : Int) < B := by omega
        obtain ⟨l0, l1, l2, lf⟩ := HP.out.L
        obtain ⟨h0, h1, h2, hf⟩ := HP.out.H
        have n1 : ¬ g1 = g2 := HP.out.ne
        have n2 : ¬ g2 = g1 := fun e => n1 e.symm
        go_wp2_with (go_at_call 119; (with_reducible refine (HBI.out _).mono ?_); rintro e w1 ⟨rfl, rfl⟩)
        all_goals
          go_roundw
          case rel =>
            first
              | exact ⟨j + 1, _, _, by go_num, by omega, HP.out.stepH HFIT.out (fun e => by have := HB4.out e; omega) _ _⟩
              | exact ⟨j + 1, _, _, by go_num, by omega, HP.out.stepL HFIT.out _ _ (fun e => by have := HB4.out e; exact pow32 _ (by omega))⟩
          case measure => simp [intOf]; omega
      · obtain rfl : j = B := by omega
        obtain ⟨l0, l1, l2, lf⟩ := HP.out.L
        obtain ⟨h0, h1, h2, hf⟩ := HP.out.H
        obtain ⟨r0, r1, r2, rf⟩ := HP.out.R
        obtain ⟨s0, s1, s2, sf⟩ := HP.out.S
        go_wp2_with (go_at_call 119; (with_reducible refine (HBI.out _).mono ?_); rintro e w1 ⟨rfl, rfl⟩)
        have k1 := HP.out.ge1
        have k2 := HP.out.ge2
        have e1 : ¬ g1 = w.heap.size + 1 := by omega
        have e2 : ¬ g1 = w.heap.size + 1 + 1 := by omega
        have e3 : ¬ g2 = w.heap.size + 1 := by omega
        have e4 : ¬ g2 = w.heap.size + 1 + 1 := by omega
        have e5 : ¬ w.heap.size + 1 = g1 := by omega
        have e6 : ¬ w.heap.size + 1 + 1 = g1 := by omega
        have e7 : ¬ w.heap.size + 1 = g2 := by omega
        have e8 : ¬ w.heap.size + 1 + 1 = g2 := by omega
        go_region
        all_goals go_wp2_with fail
        all_goals first
          | (obtain ⟨z1, z2, z3⟩ := HP.out.ret1
             refine ret_ad3 (g1 := w.heap.size + 1) (g2 := w.heap.size + 1 + 1) (x := lo) (y := hi) (v := .int .i64 0) rfl rfl rfl rfl rfl z1 z2 ?_
             exact ⟨lo, hi, rfl, HP.out.pre, z3⟩)
          | (obtain ⟨z1, z2, z3⟩ := HP.out.ret2
             refine ret_ad3 (g1 := w.heap.size + 1) (g2 := w.heap.size + 1 + 1) (x := lo) (y := hi) (v := .int .i64 0) rfl rfl rfl rfl rfl z1 z2 ?_
             exact ⟨lo, hi, rfl, HP.out.pre, z3⟩)
          | fail
end Go.Proofs.YtbpmanbpmlkmnaaGreatDoor
