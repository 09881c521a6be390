/-
  What package selector's Meet and Inside answer.
-/
import Derived.Test.YtignenekomlleaaSelHas
import Derived.Deep.CutBlock
import Derived.Deep.RegionHeld3
import Derived.Deep.RegionWith
import Derived.Deep.RegionLaw
namespace Go.Proofs.Ytignenekomlleaa
open Go.RowKit
set_option linter.unusedVariables false

/-- Where Meet stands: its arguments, its result, its own selector. -/
structure MS (W w : World) (a b m : Sl) : Prop where
  bel : Below W.heap.size W w
  A : SlIn w W.heap.size a
  B : SlIn w (W.heap.size + 1) b
  R : SlIn w (W.heap.size + 1 + 1) zeroS
  M : SlIn w (W.heap.size + 1 + 1 + 1) m
theorem MS.below {W w w' : World} {a b m : Sl} (h : MS W w a b m) (hb : Below w.heap.size w w') : MS W w' a b m :=
  ⟨h.bel.trans (hb.mono h.bel.size), h.A.below hb, h.B.below hb, h.R.below hb, h.M.below hb⟩
theorem MS.alloc {W w : World} {a b m : Sl} (h : MS W w a b m) (o : Obj) : MS W (w.alloc o) a b m := h.below ((Below.refl _ _).alloc (Nat.le_refl _) o)
theorem MS.drew {W w : World} {a b m : Sl} (h : MS W w a b m) : MS W w.drew a b m := h.below (w' := w.drew) (drew_below ⟨1, rfl⟩)
theorem TwoIn.drew {w : World} {g : Nat} {x y : Int} (h : TwoIn w g x y) : TwoIn w.drew g x y := h.below (w' := w.drew) (drew_below ⟨1, rfl⟩)
theorem MS.far {W w : World} {a b m : Sl} (h : MS W w a b m) (g j : Nat) (v : Value) (hg : W.heap.size + 1 + 1 + 1 < g) : MS W (w.setCell ⟨g, j, none⟩ v) a b m :=
  ⟨h.bel.setCell (p := ⟨g, j, none⟩) (by simp; omega) _, h.A.set_ne _ _ _ (by omega), h.B.set_ne _ _ _ (by omega), h.R.set_ne _ _ _ (by omega), h.M.set_ne _ _ _ (by omega)⟩
theorem MS.loads {W w : World} {a b m : Sl} (h : MS W w a b m) : w.cell? ⟨W.heap.size, 0, none⟩ = some (.int .i64 a.p) ∧ w.cell? ⟨W.heap.size, 1, none⟩ = some (.int .i64 a.a) ∧ w.cell? ⟨W.heap.size, 2, none⟩ = some (.int .i64 a.b) ∧ w.cell? ⟨W.heap.size, 3, none⟩ = some (.int .i64 a.lo.f) ∧ w.cell? ⟨W.heap.size, 4, none⟩ = some (.int .u64 a.lo.h) ∧ w.cell? ⟨W.heap.size, 5, none⟩ = some (.int .u64 a.lo.l) ∧ w.cell? ⟨W.heap.size, 6, none⟩ = some (.int .i64 a.hi.f) ∧ w.cell? ⟨W.heap.size, 7, none⟩ = some (.int .u64 a.hi.h) ∧ w.cell? ⟨W.heap.size, 8, none⟩ = some (.int .u64 a.hi.l) ∧ w.cell? ⟨W.heap.size + 1, 0, none⟩ = some (.int .i64 b.p) ∧ w.cell? ⟨W.heap.size + 1, 1, none⟩ = some (.int .i64 b.a) ∧ w.cell? ⟨W.heap.size + 1, 2, none⟩ = some (.int .i64 b.b) ∧ w.cell? ⟨W.heap.size + 1, 3, none⟩ = some (.int .i64 b.lo.f) ∧ w.cell? ⟨W.heap.size + 1, 4, none⟩ = some (.int .u64 b.lo.h) ∧ w.cell? ⟨W.heap.size + 1, 5, none⟩ = some (.int .u64 b.lo.l) ∧ w.cell? ⟨W.heap.size + 1, 6, none⟩ = some (.int .i64 b.hi.f) ∧ w.cell? ⟨W.heap.size + 1, 7, none⟩ = some (.int .u64 b.hi.h) ∧ w.cell? ⟨W.heap.size + 1, 8, none⟩ = some (.int .u64 b.hi.l) :=
  ⟨h.A.c0, h.A.c1, h.A.c2, h.A.c3, h.A.c4, h.A.c5, h.A.c6, h.A.c7, h.A.c8, h.B.c0, h.B.c1, h.B.c2, h.B.c3, h.B.c4, h.B.c5, h.B.c6, h.B.c7, h.B.c8⟩
theorem MS.setP {W w : World} {a b m : Sl} (h : MS W w a b m) (z : Int) : MS W (w.setCell ⟨W.heap.size + 1 + 1 + 1, 0, none⟩ (.int .i64 z)) a b { m with p := z } :=
  ⟨h.bel.setCell (p := ⟨W.heap.size + 1 + 1 + 1, 0, none⟩) (by simp; omega) _, h.A.set_ne _ _ _ (by omega), h.B.set_ne _ _ _ (by omega), h.R.set_ne _ _ _ (by omega), h.M.setP z⟩
theorem MS.setA {W w : World} {a b m : Sl} (h : MS W w a b m) (z : Int) : MS W (w.setCell ⟨W.heap.size + 1 + 1 + 1, 1, none⟩ (.int .i64 z)) a b { m with a := z } :=
  ⟨h.bel.setCell (p := ⟨W.heap.size + 1 + 1 + 1, 1, none⟩) (by simp; omega) _, h.A.set_ne _ _ _ (by omega), h.B.set_ne _ _ _ (by omega), h.R.set_ne _ _ _ (by omega), h.M.setA z⟩
theorem MS.setB {W w : World} {a b m : Sl} (h : MS W w a b m) (z : Int) : MS W (w.setCell ⟨W.heap.size + 1 + 1 + 1, 2, none⟩ (.int .i64 z)) a b { m with b := z } :=
  ⟨h.bel.setCell (p := ⟨W.heap.size + 1 + 1 + 1, 2, none⟩) (by simp; omega) _, h.A.set_ne _ _ _ (by omega), h.B.set_ne _ _ _ (by omega), h.R.set_ne _ _ _ (by omega), h.M.setB z⟩
theorem MS.setLo {W w : World} {a b m : Sl} (h : MS W w a b m) (z : Ad) : MS W (((w.setCell ⟨W.heap.size + 1 + 1 + 1, 3, none⟩ (.int .i64 z.f)).setCell ⟨W.heap.size + 1 + 1 + 1, 4, none⟩ (.int .u64 z.h)).setCell ⟨W.heap.size + 1 + 1 + 1, 5, none⟩ (.int .u64 z.l)) a b { m with lo := z } :=
  ⟨((h.bel.setCell (p := ⟨W.heap.size + 1 + 1 + 1, 3, none⟩) (by simp; omega) _).setCell (p := ⟨W.heap.size + 1 + 1 + 1, 4, none⟩) (by simp; omega) _).setCell (p := ⟨W.heap.size + 1 + 1 + 1, 5, none⟩) (by simp; omega) _, ((h.A.set_ne _ _ _ (by omega)).set_ne _ _ _ (by omega)).set_ne _ _ _ (by omega), ((h.B.set_ne _ _ _ (by omega)).set_ne _ _ _ (by omega)).set_ne _ _ _ (by omega), ((h.R.set_ne _ _ _ (by omega)).set_ne _ _ _ (by omega)).set_ne _ _ _ (by omega), h.M.setLo z⟩
theorem MS.setHi {W w : World} {a b m : Sl} (h : MS W w a b m) (z : Ad) : MS W (((w.setCell ⟨W.heap.size + 1 + 1 + 1, 6, none⟩ (.int .i64 z.f)).setCell ⟨W.heap.size + 1 + 1 + 1, 7, none⟩ (.int .u64 z.h)).setCell ⟨W.heap.size + 1 + 1 + 1, 8, none⟩ (.int .u64 z.l)) a b { m with hi := z } :=
  ⟨((h.bel.setCell (p := ⟨W.heap.size + 1 + 1 + 1, 6, none⟩) (by simp; omega) _).setCell (p := ⟨W.heap.size + 1 + 1 + 1, 7, none⟩) (by simp; omega) _).setCell (p := ⟨W.heap.size + 1 + 1 + 1, 8, none⟩) (by simp; omega) _, ((h.A.set_ne _ _ _ (by omega)).set_ne _ _ _ (by omega)).set_ne _ _ _ (by omega), ((h.B.set_ne _ _ _ (by omega)).set_ne _ _ _ (by omega)).set_ne _ _ _ (by omega), ((h.R.set_ne _ _ _ (by omega)).set_ne _ _ _ (by omega)).set_ne _ _ _ (by omega), h.M.setHi z⟩

theorem MS.setR {W w : World} {a b m : Sl} (h : MS W w a b m) (z : Sl) : SlIn (((((((((w.setCell ⟨W.heap.size + 1 + 1, 0, none⟩ (.int .i64 z.p)).setCell ⟨W.heap.size + 1 + 1, 1, none⟩ (.int .i64 z.a)).setCell ⟨W.heap.size + 1 + 1, 2, none⟩ (.int .i64 z.b)).setCell ⟨W.heap.size + 1 + 1, 3, none⟩ (.int .i64 z.lo.f)).setCell ⟨W.heap.size + 1 + 1, 4, none⟩ (.int .u64 z.lo.h)).setCell ⟨W.heap.size + 1 + 1, 5, none⟩ (.int .u64 z.lo.l)).setCell ⟨W.heap.size + 1 + 1, 6, none⟩ (.int .i64 z.hi.f)).setCell ⟨W.heap.size + 1 + 1, 7, none⟩ (.int .u64 z.hi.h)).setCell ⟨W.heap.size + 1 + 1, 8, none⟩ (.int .u64 z.hi.l)) (W.heap.size + 1 + 1) z ∧ Below W.heap.size W (((((((((w.setCell ⟨W.heap.size + 1 + 1, 0, none⟩ (.int .i64 z.p)).setCell ⟨W.heap.size + 1 + 1, 1, none⟩ (.int .i64 z.a)).setCell ⟨W.heap.size + 1 + 1, 2, none⟩ (.int .i64 z.b)).setCell ⟨W.heap.size + 1 + 1, 3, none⟩ (.int .i64 z.lo.f)).setCell ⟨W.heap.size + 1 + 1, 4, none⟩ (.int .u64 z.lo.h)).setCell ⟨W.heap.size + 1 + 1, 5, none⟩ (.int .u64 z.lo.l)).setCell ⟨W.heap.size + 1 + 1, 6, none⟩ (.int .i64 z.hi.f)).setCell ⟨W.heap.size + 1 + 1, 7, none⟩ (.int .u64 z.hi.h)).setCell ⟨W.heap.size + 1 + 1, 8, none⟩ (.int .u64 z.hi.l)) :=
  ⟨h.R.setAll z, (((((((((h.bel.setCell (p := ⟨W.heap.size + 1 + 1, 0, none⟩) (by simp; omega) _).setCell (p := ⟨W.heap.size + 1 + 1, 1, none⟩) (by simp; omega) _).setCell (p := ⟨W.heap.size + 1 + 1, 2, none⟩) (by simp; omega) _).setCell (p := ⟨W.heap.size + 1 + 1, 3, none⟩) (by simp; omega) _).setCell (p := ⟨W.heap.size + 1 + 1, 4, none⟩) (by simp; omega) _).setCell (p := ⟨W.heap.size + 1 + 1, 5, none⟩) (by simp; omega) _).setCell (p := ⟨W.heap.size + 1 + 1, 6, none⟩) (by simp; omega) _).setCell (p := ⟨W.heap.size + 1 + 1, 7, none⟩) (by simp; omega) _).setCell (p := ⟨W.heap.size + 1 + 1, 8, none⟩) (by simp; omega) _)⟩
theorem meetS_cases (a b c : Sl) (ok k1 : Bool) (h1 : ltA (hiM a b) (loM a b) = k1) (X Y X' Y' : Int) (ha : spanP a = (X, Y)) (hb : spanP b = (X', Y')) (h : meetS a b = (c, ok)) :
    (k1 = true ∧ c = zeroS ∧ ok = false) ∨ (k1 = false ∧ (b.p != 0) = true ∧ (b.p != prM a b) = true ∧ c = zeroS ∧ ok = false) ∨
    (k1 = false ∧ ((b.p != 0) = false ∨ ((b.p != 0) = true ∧ (b.p != prM a b) = false)) ∧ max X X' > min Y Y' ∧ c = zeroS ∧ ok = false) ∨
    (k1 = false ∧ ((b.p != 0) = false ∨ ((b.p != 0) = true ∧ (b.p != prM a b) = false)) ∧ ¬ max X X' > min Y Y' ∧ c = ⟨prM a b, (fieldsP (max X X') (min Y Y')).1, (fieldsP (max X X') (min Y Y')).2, loM a b, hiM a b⟩ ∧ ok = true) := by
  unfold meetS loP hiP at h
  rw [h1, ha, hb] at h
  simp only at h
  cases k1 with
  | true =>
    rw [if_pos (Or.inl rfl)] at h
    simp only [Prod.mk.injEq] at h
    exact Or.inl ⟨rfl, h.1.symm, h.2.symm⟩
  | false =>
    by_cases h2 : b.p ≠ 0 ∧ b.p ≠ prM a b
    · rw [if_pos (Or.inr (Or.inl h2))] at h
      simp only [Prod.mk.injEq] at h
      exact Or.inr (Or.inl ⟨rfl, by simpa using h2.1, by simpa using h2.2, h.1.symm, h.2.symm⟩)
    · have h3 : (b.p != 0) = false ∨ ((b.p != 0) = true ∧ (b.p != prM a b) = false) := by
        by_cases h4 : b.p = 0
        · exact Or.inl (by simpa using h4)
        · refine Or.inr ⟨by simpa using h4, ?_⟩
          simp only [bne_eq_false_iff_eq]
          apply Classical.byContradiction
          intro h5
          exact h2 ⟨h4, h5⟩
      by_cases h6 : min Y Y' < max X X'
      · rw [if_pos (Or.inr (Or.inr h6))] at h
        simp only [Prod.mk.injEq] at h
        exact Or.inr (Or.inr (Or.inl ⟨rfl, h3, h6, h.1.symm, h.2.symm⟩))
      · rw [if_neg (by rintro (h7 | h7 | h7); cases h7; exact h2 h7; exact h6 h7)] at h
        simp only [Prod.mk.injEq] at h
        exact Or.inr (Or.inr (Or.inr ⟨rfl, h3, h6, h.1.symm, h.2.symm⟩))

set_option maxHeartbeats 1600000 in
set_option maxRecDepth 100000 in
theorem meet_at (a b c : Sl) (ok : Bool) (hm : meetS a b = (c, ok)) (w : World) :
    Calls Try.prog 43 #[(.agg #[.int .i64 a.p, .int .i64 a.a, .int .i64 a.b, .int .i64 a.lo.f, .int .u64 a.lo.h, .int .u64 a.lo.l, .int .i64 a.hi.f, .int .u64 a.hi.h, .int .u64 a.hi.l]), (.agg #[.int .i64 b.p, .int .i64 b.a, .int .i64 b.b, .int .i64 b.lo.f, .int .u64 b.lo.h, .int .u64 b.lo.l, .int .i64 b.hi.f, .int .u64 b.hi.h, .int .u64 b.hi.l])] w fun e w' => e = .returned (.tuple #[(.agg #[.int .i64 c.p, .int .i64 c.a, .int .i64 c.b, .int .i64 c.lo.f, .int .u64 c.lo.h, .int .u64 c.lo.l, .int .i64 c.hi.f, .int .u64 c.hi.h, .int .u64 c.hi.l]), .bool ok]) ∧ Below w.heap.size w w' := by
  have HM := hidden hm
  clear hm
  have H0 := hidden (show MS w ((((w.alloc (.cells #[.int .i64 a.p, .int .i64 a.a, .int .i64 a.b, .int .i64 a.lo.f, .int .u64 a.lo.h, .int .u64 a.lo.l, .int .i64 a.hi.f, .int .u64 a.hi.h, .int .u64 a.hi.l] 48)).alloc (.cells #[.int .i64 b.p, .int .i64 b.a, .int .i64 b.b, .int .i64 b.lo.f, .int .u64 b.lo.h, .int .u64 b.lo.l, .int .i64 b.hi.f, .int .u64 b.hi.h, .int .u64 b.hi.l] 48)).alloc (.cells #[.int .i64 0, .int .i64 0, .int .i64 0, .int .i64 0, .int .u64 0, .int .u64 0, .int .i64 0, .int .u64 0, .int .u64 0] 48)).alloc (.cells #[.int .i64 a.p, .int .i64 a.a, .int .i64 a.b, .int .i64 a.lo.f, .int .u64 a.lo.h, .int .u64 a.lo.l, .int .i64 a.hi.f, .int .u64 a.hi.h, .int .u64 a.hi.l] 48)) a b a from
    ⟨((below_three _ _ _).alloc (by simp; omega) _), (((SlIn.new w a 48).alloc _).alloc _).alloc _, by
      have := ((SlIn.new (w.alloc (.cells #[.int .i64 a.p, .int .i64 a.a, .int .i64 a.b, .int .i64 a.lo.f, .int .u64 a.lo.h, .int .u64 a.lo.l, .int .i64 a.hi.f, .int .u64 a.hi.h, .int .u64 a.hi.l] 48)) b 48).alloc (.cells #[.int .i64 0, .int .i64 0, .int .i64 0, .int .i64 0, .int .u64 0, .int .u64 0, .int .i64 0, .int .u64 0, .int .u64 0] 48)).alloc (.cells #[.int .i64 a.p, .int .i64 a.a, .int .i64 a.b, .int .i64 a.lo.f, .int .u64 a.lo.h, .int .u64 a.lo.l, .int .i64 a.hi.f, .int .u64 a.hi.h, .int .u64 a.hi.l] 48)
      simpa using this, by
      have := ((SlIn.new ((w.alloc (.cells #[.int .i64 a.p, .int .i64 a.a, .int .i64 a.b, .int .i64 a.lo.f, .int .u64 a.lo.h, .int .u64 a.lo.l, .int .i64 a.hi.f, .int .u64 a.hi.h, .int .u64 a.hi.l] 48)).alloc (.cells #[.int .i64 b.p, .int .i64 b.a, .int .i64 b.b, .int .i64 b.lo.f, .int .u64 b.lo.h, .int .u64 b.lo.l, .int .i64 b.hi.f, .int .u64 b.hi.h, .int .u64 b.hi.l] 48)) zeroS 48)).alloc (.cells #[.int .i64 a.p, .int .i64 a.a, .int .i64 a.b, .int .i64 a.lo.f, .int .u64 a.lo.h, .int .u64 a.lo.l, .int .i64 a.hi.f, .int .u64 a.hi.h, .int .u64 a.hi.l] 48)
      simpa [zeroS, zeroA] using this, by
      have := SlIn.new (((w.alloc (.cells #[.int .i64 a.p, .int .i64 a.a, .int .i64 a.b, .int .i64 a.lo.f, .int .u64 a.lo.h, .int .u64 a.lo.l, .int .i64 a.hi.f, .int .u64 a.hi.h, .int .u64 a.hi.l] 48)).alloc (.cells #[.int .i64 b.p, .int .i64 b.a, .int .i64 b.b, .int .i64 b.lo.f, .int .u64 b.lo.h, .int .u64 b.lo.l, .int .i64 b.hi.f, .int .u64 b.hi.h, .int .u64 b.hi.l] 48)).alloc (.cells #[.int .i64 0, .int .i64 0, .int .i64 0, .int .i64 0, .int .u64 0, .int .u64 0, .int .i64 0, .int .u64 0, .int .u64 0] 48)) a 48
      simpa using this⟩)
  go_enter Try.func43, Try.ntmps43
  have HL1 := hidden (sless_any a.lo b.lo)
  have HL2 := hidden (sless_any b.hi a.hi)
  go_upto_if 15 with (go_at_call 30; (with_reducible refine (HL1.out _).mono ?_); rintro e w1 ⟨rfl, hb⟩; have H1 := hidden (H0.out.below hb); clear hb H0 HL1)
  go_cut [] from 11 to 18 (fun wx => MS w wx a b { a with lo := loM a b })
  case first =>
    rcases e1 : ltA a.lo b.lo with _ | _
    · go_wp2
      go_meet
      case rel => rw [show loM a b = a.lo by unfold loM; rw [e1]; rfl]; exact H1.out
    · obtain ⟨-, -, -, c3, c4, c5, -, -, -, -⟩ := H1.out.B
      obtain ⟨-, -, -, m3, m4, m5, -, -, -, fr⟩ := H1.out.M
      go_wp2
      go_meet
      case rel => rw [show loM a b = b.lo by unfold loM; rw [e1]; rfl]; exact H1.out.setLo b.lo
  case rest =>
    have H2 := hidden hcut
    clear hcut H1
    obtain ⟨-, -, -, -, -, -, a6, a7, a8, -⟩ := H2.out.A
    obtain ⟨-, -, -, -, -, -, b6, b7, b8, -⟩ := H2.out.B
    go_upto_if 23 with (go_at_call 30; (with_reducible refine (HL2.out _).mono ?_); rintro e w2 ⟨rfl, hb⟩; have H3 := hidden (H2.out.below hb); clear hb H2 HL2 a6 a7 a8 b6 b7 b8)
    go_cut [] from 19 to 26 (fun wx => MS w wx a b { a with lo := loM a b, hi := hiM a b })
    case first =>
      rcases e1 : ltA b.hi a.hi with _ | _
      · go_wp2
        go_meet
        case rel => rw [show hiM a b = a.hi by unfold hiM; rw [e1]; rfl]; exact H3.out
      · obtain ⟨-, -, -, -, -, -, c6, c7, c8, -⟩ := H3.out.B
        obtain ⟨-, -, -, -, -, -, m6, m7, m8, fr⟩ := H3.out.M
        go_wp2
        go_meet
        case rel => rw [show hiM a b = b.hi by unfold hiM; rw [e1]; rfl]; exact H3.out.setHi b.hi
    case rest =>
      have H4 := hidden hcut
      clear hcut H3
      have a0 := H4.out.A.c0
      go_upto_if 29 with fail
      go_cut [] from 27 to 32 (fun wx => MS w wx a b { a with p := prM a b, lo := loM a b, hi := hiM a b })
      case first =>
        by_cases e1 : a.p = 0
        · have e2 : (a.p == 0) = true := by simpa using e1
          have E1 := hidden e1
          clear e1
          have b0 := H4.out.B.c0
          obtain ⟨m0, -, -, -, -, -, -, -, -, fr⟩ := H4.out.M
          go_wp2
          go_meet
          case rel => rw [show prM a b = b.p by unfold prM; rw [if_pos E1.out]]; exact H4.out.setP b.p
        · have e2 : (a.p == 0) = false := by simpa using e1
          go_wp2
          go_meet
          case rel => rw [show prM a b = a.p by unfold prM; rw [if_neg e1]]; exact H4.out
      case rest =>
        have H5 := hidden hcut
        clear hcut H4 a0
        obtain ⟨X, Y, hXY⟩ : ∃ X Y, spanP a = (X, Y) := ⟨_, _, rfl⟩
        obtain ⟨X', Y', hXY'⟩ : ∃ X Y, spanP b = (X, Y) := ⟨_, _, rfl⟩
        have HP := hidden (ports_any a X Y hXY)
        have HQ := hidden (ports_any b X' Y' hXY')
        have HSP := hidden (And.intro hXY hXY')
        clear hXY hXY'
        go_upto_region 8 with fail
        go_cut [7, 8] from 33 to 36 (fun u v wx => ∃ g1 g2, u = .pointer (some ⟨g1, 0, none⟩) ∧ v = .pointer (some ⟨g2, 0, none⟩) ∧ MS w wx a b { a with p := prM a b, lo := loM a b, hi := hiM a b } ∧ TwoIn wx g1 X Y ∧ TwoIn wx g2 X' Y')
        case first =>
          obtain ⟨a0, a1, a2, a3, a4, a5, a6, a7, a8, -⟩ := H5.out.A
          obtain ⟨b0, b1, b2, b3, b4, b5, b6, b7, b8, -⟩ := H5.out.B
          have hAc := H5.out.A.lt
          have hMc := H5.out.M.lt
          have hBc := H5.out.B.lt
          have HD := hidden (H5.out.below (w' := wc.drew) (drew_below ⟨1, rfl⟩))
          go_region_held3 (fun w' => w'.cell? ⟨w.heap.size, 0, none⟩ = some (.int .i64 a.p) ∧ w'.cell? ⟨w.heap.size, 1, none⟩ = some (.int .i64 a.a) ∧ w'.cell? ⟨w.heap.size, 2, none⟩ = some (.int .i64 a.b) ∧ w'.cell? ⟨w.heap.size, 3, none⟩ = some (.int .i64 a.lo.f) ∧ w'.cell? ⟨w.heap.size, 4, none⟩ = some (.int .u64 a.lo.h) ∧ w'.cell? ⟨w.heap.size, 5, none⟩ = some (.int .u64 a.lo.l) ∧ w'.cell? ⟨w.heap.size, 6, none⟩ = some (.int .i64 a.hi.f) ∧ w'.cell? ⟨w.heap.size, 7, none⟩ = some (.int .u64 a.hi.h) ∧ w'.cell? ⟨w.heap.size, 8, none⟩ = some (.int .u64 a.hi.l) ∧ w'.cell? ⟨w.heap.size + 1, 0, none⟩ = some (.int .i64 b.p) ∧ w'.cell? ⟨w.heap.size + 1, 1, none⟩ = some (.int .i64 b.a) ∧ w'.cell? ⟨w.heap.size + 1, 2, none⟩ = some (.int .i64 b.b) ∧ w'.cell? ⟨w.heap.size + 1, 3, none⟩ = some (.int .i64 b.lo.f) ∧ w'.cell? ⟨w.heap.size + 1, 4, none⟩ = some (.int .u64 b.lo.h) ∧ w'.cell? ⟨w.heap.size + 1, 5, none⟩ = some (.int .u64 b.lo.l) ∧ w'.cell? ⟨w.heap.size + 1, 6, none⟩ = some (.int .i64 b.hi.f) ∧ w'.cell? ⟨w.heap.size + 1, 7, none⟩ = some (.int .u64 b.hi.h) ∧ w'.cell? ⟨w.heap.size + 1, 8, none⟩ = some (.int .u64 b.hi.l)) ((refine MS.loads (m := { a with p := prM a b, lo := loM a b, hi := hiM a b }) ?_; repeat' (first | exact hm4 | exact hm3 | exact H5.out | exact HD.out | (with_reducible refine MS.drew ?_) | (with_reducible refine MS.alloc ?_ _) | (with_reducible refine MS.far ?_ _ _ _ (by omega)))))
            (first
            | (go_at_call 69; (with_reducible refine (HP.out _).mono ?_); rintro e w3 ⟨rfl, hb3⟩; have hm3 : MS w w3 a b { a with p := prM a b, lo := loM a b, hi := hiM a b } := (by first | exact HD.out.below hb3 | exact (HD.out.alloc _).below hb3 | exact ((HD.out.alloc _).alloc _).below hb3 | exact (H5.out.alloc _).drew.below hb3 | exact ((H5.out.alloc _).alloc _).drew.below hb3); have hA3 := hm3.A.lt; have hM3 := hm3.M.lt; have hB3 := hm3.B.lt; (try (have y1 : TwoIn w3 wc.heap.size 0 0 := (TwoIn.new wc.drew 0 0 127).below hb3)); (try (have y1 : TwoIn w3 wc.heap.size 0 0 := ((TwoIn.new wc.drew 0 0 127).alloc (.cells #[.int .i64 0, .int .i64 0] 127)).below hb3)); (try (have y1 : TwoIn w3 wc.heap.size 0 0 := (TwoIn.new wc 0 0 127).drew.below hb3)); (try (have y1 : TwoIn w3 wc.heap.size 0 0 := ((TwoIn.new wc 0 0 127).alloc (.cells #[.int .i64 0, .int .i64 0] 127)).drew.below hb3)); (try (have y2 : TwoIn w3 (wc.heap.size + 1) 0 0 := by have := (TwoIn.new (wc.alloc (.cells #[.int .i64 0, .int .i64 0] 127)) 0 0 127).drew.below hb3; simpa using this)); (try (have l1 := y1.lt; have y := y1; obtain ⟨p0, p1, pf⟩ := y)); (try (have l2 := y2.lt; have y := y2; obtain ⟨q0, q1, qf⟩ := y)); (try (have na0 : ¬ wc.heap.size = w3.heap.size := by omega)); (try (have na0' : ¬ w3.heap.size = wc.heap.size := by omega)); (try (have na1 : ¬ wc.heap.size = w3.heap.size + 1 := by omega)); (try (have na1' : ¬ w3.heap.size + 1 = wc.heap.size := by omega)); (try (have na2 : ¬ wc.heap.size + 1 = w3.heap.size := by omega)); (try (have na2' : ¬ w3.heap.size = wc.heap.size + 1 := by omega)); (try (have na3 : ¬ wc.heap.size + 1 = w3.heap.size + 1 := by omega)); (try (have na3' : ¬ w3.heap.size + 1 = wc.heap.size + 1 := by omega)))
            | (go_at_call 69; (with_reducible refine (HQ.out _).mono ?_); rintro e w4 ⟨rfl, hb4⟩; have hm4 : MS w w4 a b { a with p := prM a b, lo := loM a b, hi := hiM a b } := (by first | exact hm3.below hb4 | exact (hm3.alloc _).below hb4 | exact ((hm3.alloc _).alloc _).below hb4); have hA4 := hm4.A.lt; have hM4 := hm4.M.lt; have hB4 := hm4.B.lt; (try (have u1 := y1.below hb4)); (try (have u1 := (y1.alloc (.cells #[.int .i64 0, .int .i64 0] 127)).below hb4)); (try (have u2 := y2.below hb4)); (try (have v1 := (TwoIn.new w3 0 0 127).below hb4)); (try (have v1 := ((TwoIn.new w3 0 0 127).alloc (.cells #[.int .i64 0, .int .i64 0] 127)).below hb4)); (try (have v2 : TwoIn w4 (w3.heap.size + 1) 0 0 := by have := (TwoIn.new (w3.alloc (.cells #[.int .i64 0, .int .i64 0] 127)) 0 0 127).below hb4; simpa using this)); (try (have m1 := u1.lt; have y := u1; obtain ⟨r0, r1, rf⟩ := y)); (try (have m2 := u2.lt; have y := u2; obtain ⟨s0, s1, sf⟩ := y)); (try (have m3 := v1.lt; have y := v1; obtain ⟨t0, t1, tf⟩ := y)); (try (have m4 := v2.lt; have y := v2; obtain ⟨x0, x1, xf⟩ := y)); (try (have nb0 : ¬ wc.heap.size = w4.heap.size := by omega)); (try (have nb0' : ¬ w4.heap.size = wc.heap.size := by omega)); (try (have nb1 : ¬ wc.heap.size = w4.heap.size + 1 := by omega)); (try (have nb1' : ¬ w4.heap.size + 1 = wc.heap.size := by omega)); (try (have nb2 : ¬ wc.heap.size + 1 = w4.heap.size := by omega)); (try (have nb2' : ¬ w4.heap.size = wc.heap.size + 1 := by omega)); (try (have nb3 : ¬ wc.heap.size + 1 = w4.heap.size + 1 := by omega)); (try (have nb3' : ¬ w4.heap.size + 1 = wc.heap.size + 1 := by omega)); (try (have nb4 : ¬ w3.heap.size = w4.heap.size := by omega)); (try (have nb4' : ¬ w4.heap.size = w3.heap.size := by omega)); (try (have nb5 : ¬ w3.heap.size = w4.heap.size + 1 := by omega)); (try (have nb5' : ¬ w4.heap.size + 1 = w3.heap.size := by omega)); (try (have nb6 : ¬ w3.heap.size + 1 = w4.heap.size := by omega)); (try (have nb6' : ¬ w4.heap.size = w3.heap.size + 1 := by omega)); (try (have nb7 : ¬ w3.heap.size + 1 = w4.heap.size + 1 := by omega)); (try (have nb7' : ¬ w4.heap.size + 1 = w3.heap.size + 1 := by omega)))
            | fail)
          all_goals go_wp2_with fail
          all_goals go_meet
          all_goals refine ⟨_, _, rfl, rfl, ?_, ?_, ?_⟩
          all_goals first
            | exact ⟨by go_simp, by go_simp, fun j => by go_simp⟩
            | (repeat' (first | with_reducible exact hm4 | (with_reducible refine MS.alloc ?_ _) | (with_reducible refine MS.far ?_ _ _ _ (by omega))))
        case rest =>
          obtain ⟨g1, g2, rfl, rfl, hms, ht1, ht2⟩ := hcut
          have H6 := hidden hms
          obtain ⟨p0, p1, -⟩ := ht1
          obtain ⟨q0, q1, -⟩ := ht2
          clear hms HP HQ H5
          obtain ⟨e1, e2⟩ := HSP.out
          have hcs := meetS_cases a b c ok (ltA (hiM a b) (loM a b)) rfl X Y X' Y' e1 e2 HM.out
          have HL3 := hidden (sless_any (hiM a b) (loM a b))
          obtain ⟨L, hL⟩ : ∃ L, max X X' = L := ⟨_, rfl⟩
          obtain ⟨R, hR⟩ : ∃ R, min Y Y' = R := ⟨_, rfl⟩
          rw [hL, hR] at hcs
          have HLR := hidden (And.intro hL hR)
          have HF := hidden (fields_any L R)
          go_upto_region 9 with fail
          go_cut [9] from 37 to 47 (fun u wx => ∃ g3, u = .pointer (some ⟨g3, 0, none⟩) ∧ MS w wx a b { a with p := prM a b, lo := loM a b, hi := hiM a b } ∧ TwoIn wx g3 L R)
          case first =>
            go_wp2_with fail
            all_goals go_meet
            all_goals obtain ⟨hL, hR⟩ := HLR.out
            all_goals refine ⟨_, rfl, H6.out.alloc _, ?_⟩
            all_goals first
              | (have q1 : X = L := by omega
                 have q2 : Y = R := by omega
                 rw [← q1, ← q2]
                 exact TwoIn.new _ _ _ _)
              | (have q1 : X = L := by omega
                 have q2 : Y' = R := by omega
                 rw [← q1, ← q2]
                 exact TwoIn.new _ _ _ _)
              | (have q1 : X' = L := by omega
                 have q2 : Y = R := by omega
                 rw [← q1, ← q2]
                 exact TwoIn.new _ _ _ _)
              | (have q1 : X' = L := by omega
                 have q2 : Y' = R := by omega
                 rw [← q1, ← q2]
                 exact TwoIn.new _ _ _ _)
              | fail
          case rest =>
            obtain ⟨g3, rfl, hms, ht3⟩ := hcut
            have H7 := hidden hms
            have HT3 := hidden ht3
            clear hms ht3 H6 p0 p1 q0 q1
            generalize ltA (hiM a b) (loM a b) = k1 at *
            obtain ⟨m0, m1, m2, m3, m4, m5, m6, m7, m8, mf⟩ := H7.out.M
            simp only at m0 m1 m2 m3 m4 m5 m6 m7 m8
            generalize prM a b = P at *
            generalize loM a b = lo at *
            generalize hiM a b = hi at *
            clear e1 e2 HSP HM hL hR HLR
            rcases hcs with ⟨rfl, rfl, rfl⟩ | ⟨rfl, k2, k3, rfl, rfl⟩ | ⟨rfl, k2, k4, rfl, rfl⟩ | ⟨rfl, k2, k4, rfl, rfl⟩
            · go_wp2_with (go_at_call 30; (with_reducible refine (HL3.out _).mono ?_); rintro e w5 ⟨rfl, hb⟩; have H8 := hidden (H7.out.below hb); obtain ⟨r0, r1, r2, r3, r4, r5, r6, r7, r8, rf⟩ := H8.out.R; clear hb m0 m1 m2 m3 m4 m5 m6 m7 m8 mf)
              obtain ⟨z1, z2⟩ := H8.out.setR zeroS
              refine ret_sl2 (g := w.heap.size + 1 + 1) (s := zeroS) (v := .bool false) rfl rfl rfl rfl z1 ?_
              exact ⟨rfl, z2⟩
            · go_wp2_with (go_at_call 30; (with_reducible refine (HL3.out _).mono ?_); rintro e w5 ⟨rfl, hb⟩; have H8 := hidden (H7.out.below hb); have b0 := H8.out.B.c0; obtain ⟨r0, r1, r2, r3, r4, r5, r6, r7, r8, rf⟩ := H8.out.R; clear m0 m1 m2 m3 m4 m5 m6 m7 m8 mf; have m0 := (H7.out.below hb).M.c0; simp only at m0; clear hb)
              obtain ⟨z1, z2⟩ := H8.out.setR zeroS
              refine ret_sl2 (g := w.heap.size + 1 + 1) (s := zeroS) (v := .bool false) rfl rfl rfl rfl z1 ?_
              exact ⟨rfl, z2⟩
            · rcases k2 with k2 | ⟨k2, k3⟩
              all_goals
                go_wp2_with (go_at_call 30; (with_reducible refine (HL3.out _).mono ?_); rintro e w5 ⟨rfl, hb⟩; have H8 := hidden (H7.out.below hb); have b0 := H8.out.B.c0; obtain ⟨r0, r1, r2, r3, r4, r5, r6, r7, r8, rf⟩ := H8.out.R; clear m0 m1 m2 m3 m4 m5 m6 m7 m8 mf; have m0 := (H7.out.below hb).M.c0; simp only at m0; obtain ⟨t0, t1, -⟩ := HT3.out.below hb; clear hb)
                obtain ⟨z1, z2⟩ := H8.out.setR zeroS
                refine ret_sl2 (g := w.heap.size + 1 + 1) (s := zeroS) (v := .bool false) rfl rfl rfl rfl z1 ?_
                exact ⟨rfl, z2⟩
            · obtain ⟨F1, F2, hF⟩ : ∃ F1 F2, fieldsP L R = (F1, F2) := ⟨_, _, rfl⟩
              rw [hF] at HF
              have HFF := hidden hF
              clear hF
              rcases k2 with k2 | ⟨k2, k3⟩
              all_goals
                go_wp2_with (first
                  | (go_at_call 30; (with_reducible refine (HL3.out _).mono ?_); rintro e w5 ⟨rfl, hb⟩; have H8 := hidden (H7.out.below hb); have b0 := H8.out.B.c0; clear m0 m1 m2 m3 m4 m5 m6 m7 m8 mf; have m0 := (H7.out.below hb).M.c0; simp only at m0; obtain ⟨t0, t1, -⟩ := HT3.out.below hb; clear hb)
                  | (go_at_call 70; (with_reducible refine (HF.out _).mono ?_); rintro e w6 ⟨rfl, hb⟩; have H9 := hidden (H8.out.below hb); obtain ⟨r0, r1, r2, r3, r4, r5, r6, r7, r8, rf⟩ := H9.out.R; clear m0; obtain ⟨m0, m1, m2, m3, m4, m5, m6, m7, m8, mf⟩ := H9.out.M; simp only at m0 m1 m2 m3 m4 m5 m6 m7 m8; clear hb t0 t1))
                obtain ⟨z1, z2⟩ := ((H9.out.setA F1).setB F2).setR ⟨P, F1, F2, lo, hi⟩
                refine ret_sl2 (g := w.heap.size + 1 + 1) (s := ⟨P, F1, F2, lo, hi⟩) (v := .bool true) rfl rfl rfl rfl z1 ?_
                exact ⟨by rw [HFF.out], z2⟩
theorem meet_any (a b : Sl) (w : World) :
    Calls Try.prog 43 #[(.agg #[.int .i64 a.p, .int .i64 a.a, .int .i64 a.b, .int .i64 a.lo.f, .int .u64 a.lo.h, .int .u64 a.lo.l, .int .i64 a.hi.f, .int .u64 a.hi.h, .int .u64 a.hi.l]), (.agg #[.int .i64 b.p, .int .i64 b.a, .int .i64 b.b, .int .i64 b.lo.f, .int .u64 b.lo.h, .int .u64 b.lo.l, .int .i64 b.hi.f, .int .u64 b.hi.h, .int .u64 b.hi.l])] w fun e w' => e = .returned (.tuple #[(.agg #[.int .i64 (meetS a b).1.p, .int .i64 (meetS a b).1.a, .int .i64 (meetS a b).1.b, .int .i64 (meetS a b).1.lo.f, .int .u64 (meetS a b).1.lo.h, .int .u64 (meetS a b).1.lo.l, .int .i64 (meetS a b).1.hi.f, .int .u64 (meetS a b).1.hi.h, .int .u64 (meetS a b).1.hi.l]), .bool (meetS a b).2]) ∧ Below w.heap.size w w' := meet_at a b _ _ rfl w
end Go.Proofs.Ytignenekomlleaa
