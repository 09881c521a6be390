/-
  The law SelectorMeets, walked: it returns true for every input, and only adds memory of its own.
-/
import Derived.Test.YtnehhpkdfkemaaaSelLaws
namespace Go.Proofs.Ytnehhpkdfkemaaa
open Go.RowKit
set_option linter.unusedVariables false

/-- What the walk knows of three selectors: their meets. -/
structure Meets (a b d x p u v : Sl) (ok f g h : Bool) : Prop where
  m1 : meetS a b = (x, ok)
  m2 : meetS b a = (x, ok)
  m3 : meetS a a = (a, true)
  m4 : meetS b d = (p, f)
  m5 : meetS x d = (u, g)
  m6 : meetS a p = (v, h)
  both : ok = true → f = true → u = v ∧ g = h
  left : ok = true → f = false → u = zeroS ∧ g = false
  right : ok = false → f = true → v = zeroS ∧ h = false
  ins : insideS a b = (ok && decide (x = a))
theorem meets {a b d : Sl} (ha : DrawS 4 a) (hb : DrawS 4 b) (hd : DrawS 4 d) : ∃ x p u v ok f g h, Meets a b d x p u v ok f g h := by
  obtain ⟨x, ok, h1⟩ : ∃ x ok, meetS a b = (x, ok) := ⟨_, _, rfl⟩
  obtain ⟨p, f, h4⟩ : ∃ x ok, meetS b d = (x, ok) := ⟨_, _, rfl⟩
  obtain ⟨u, g, h5⟩ : ∃ u g, meetS x d = (u, g) := ⟨_, _, rfl⟩
  obtain ⟨v, h, h6⟩ : ∃ v h, meetS a p = (v, h) := ⟨_, _, rfl⟩
  have hab : a.lo.f = b.lo.f := ha.fam.trans hb.fam.symm
  have hbd : b.lo.f = d.lo.f := hb.fam.trans hd.fam.symm
  have hass := meet_assoc ha.good hb.good hd.good hab hbd
  rw [h1, h4] at hass
  simp only at hass
  refine ⟨x, p, u, v, ok, f, g, h, h1, (meet_comm ha.good hb.good hab).symm.trans h1, inside_self ha.good, h4, h5, h6, ?_, ?_, ?_, ?_⟩
  · rintro rfl rfl
    simpa [h5, h6] using hass
  · rintro rfl rfl
    simpa [h5] using hass
  · rintro rfl rfl
    have := hass.symm
    simpa [h6] using this
  · unfold insideS
    rw [h1]
theorem sl_bne (x : Sl) : (x.p != x.p) = false ∧ (x.a != x.a) = false ∧ (x.b != x.b) = false := by simp

/-- Where the law stands: its selectors. -/
structure ML (W wx : World) (gn gx gq : Nat) (a b d x q u v : Sl) : Prop where
  bel : Below W.heap.size W wx
  A : SlIn wx gn a
  B : SlIn wx (gn + 1) b
  D : SlIn wx (gn + 1 + 1) d
  X : SlIn wx gx x
  Q : SlIn wx gq q
  U : SlIn wx (gq + 1) u
  V : SlIn wx (gq + 1 + 1) v
  lt1 : gn + 1 + 1 < gq
  lt2 : gx < gq
  ge : W.heap.size ≤ gq
section
variable {W wx wy : World} {gn gx gq : Nat} {a b d x q u v : Sl}
theorem ML.below (h : ML W wx gn gx gq a b d x q u v) (hb : Below wx.heap.size wx wy) : ML W wy gn gx gq a b d x q u v :=
  ⟨h.bel.trans (hb.mono h.bel.size), h.A.below hb, h.B.below hb, h.D.below hb, h.X.below hb, h.Q.below hb, h.U.below hb, h.V.below hb, h.lt1, h.lt2, h.ge⟩
theorem ML.setU (h : ML W wx gn gx gq a b d x q u v) (z : Sl) : ML W (((((((((wx.setCell ⟨gq + 1, 0, none⟩ (.int .i64 z.p)).setCell ⟨gq + 1, 1, none⟩ (.int .i64 z.a)).setCell ⟨gq + 1, 2, none⟩ (.int .i64 z.b)).setCell ⟨gq + 1, 3, none⟩ (.int .i64 z.lo.f)).setCell ⟨gq + 1, 4, none⟩ (.int .u64 z.lo.h)).setCell ⟨gq + 1, 5, none⟩ (.int .u64 z.lo.l)).setCell ⟨gq + 1, 6, none⟩ (.int .i64 z.hi.f)).setCell ⟨gq + 1, 7, none⟩ (.int .u64 z.hi.h)).setCell ⟨gq + 1, 8, none⟩ (.int .u64 z.hi.l)) gn gx gq a b d x q z v := by
  have h1 := h.lt1
  have h2 := h.lt2
  have h3 := h.ge
  exact ⟨(((((((((h.bel.setCell (p := ⟨gq + 1, 0, none⟩) (by simp; omega) _).setCell (p := ⟨gq + 1, 1, none⟩) (by simp; omega) _).setCell (p := ⟨gq + 1, 2, none⟩) (by simp; omega) _).setCell (p := ⟨gq + 1, 3, none⟩) (by simp; omega) _).setCell (p := ⟨gq + 1, 4, none⟩) (by simp; omega) _).setCell (p := ⟨gq + 1, 5, none⟩) (by simp; omega) _).setCell (p := ⟨gq + 1, 6, none⟩) (by simp; omega) _).setCell (p := ⟨gq + 1, 7, none⟩) (by simp; omega) _).setCell (p := ⟨gq + 1, 8, none⟩) (by simp; omega) _), (((((((((h.A.set_ne _ _ _ (by omega)).set_ne _ _ _ (by omega)).set_ne _ _ _ (by omega)).set_ne _ _ _ (by omega)).set_ne _ _ _ (by omega)).set_ne _ _ _ (by omega)).set_ne _ _ _ (by omega)).set_ne _ _ _ (by omega)).set_ne _ _ _ (by omega)), (((((((((h.B.set_ne _ _ _ (by omega)).set_ne _ _ _ (by omega)).set_ne _ _ _ (by omega)).set_ne _ _ _ (by omega)).set_ne _ _ _ (by omega)).set_ne _ _ _ (by omega)).set_ne _ _ _ (by omega)).set_ne _ _ _ (by omega)).set_ne _ _ _ (by omega)), (((((((((h.D.set_ne _ _ _ (by omega)).set_ne _ _ _ (by omega)).set_ne _ _ _ (by omega)).set_ne _ _ _ (by omega)).set_ne _ _ _ (by omega)).set_ne _ _ _ (by omega)).set_ne _ _ _ (by omega)).set_ne _ _ _ (by omega)).set_ne _ _ _ (by omega)), (((((((((h.X.set_ne _ _ _ (by omega)).set_ne _ _ _ (by omega)).set_ne _ _ _ (by omega)).set_ne _ _ _ (by omega)).set_ne _ _ _ (by omega)).set_ne _ _ _ (by omega)).set_ne _ _ _ (by omega)).set_ne _ _ _ (by omega)).set_ne _ _ _ (by omega)), (((((((((h.Q.set_ne _ _ _ (by omega)).set_ne _ _ _ (by omega)).set_ne _ _ _ (by omega)).set_ne _ _ _ (by omega)).set_ne _ _ _ (by omega)).set_ne _ _ _ (by omega)).set_ne _ _ _ (by omega)).set_ne _ _ _ (by omega)).set_ne _ _ _ (by omega)), h.U.setAll z, (((((((((h.V.set_ne _ _ _ (by omega)).set_ne _ _ _ (by omega)).set_ne _ _ _ (by omega)).set_ne _ _ _ (by omega)).set_ne _ _ _ (by omega)).set_ne _ _ _ (by omega)).set_ne _ _ _ (by omega)).set_ne _ _ _ (by omega)).set_ne _ _ _ (by omega)), h1, h2, h3⟩
theorem ML.setV (h : ML W wx gn gx gq a b d x q u v) (z : Sl) : ML W (((((((((wx.setCell ⟨gq + 1 + 1, 0, none⟩ (.int .i64 z.p)).setCell ⟨gq + 1 + 1, 1, none⟩ (.int .i64 z.a)).setCell ⟨gq + 1 + 1, 2, none⟩ (.int .i64 z.b)).setCell ⟨gq + 1 + 1, 3, none⟩ (.int .i64 z.lo.f)).setCell ⟨gq + 1 + 1, 4, none⟩ (.int .u64 z.lo.h)).setCell ⟨gq + 1 + 1, 5, none⟩ (.int .u64 z.lo.l)).setCell ⟨gq + 1 + 1, 6, none⟩ (.int .i64 z.hi.f)).setCell ⟨gq + 1 + 1, 7, none⟩ (.int .u64 z.hi.h)).setCell ⟨gq + 1 + 1, 8, none⟩ (.int .u64 z.hi.l)) gn gx gq a b d x q u z := by
  have h1 := h.lt1
  have h2 := h.lt2
  have h3 := h.ge
  exact ⟨(((((((((h.bel.setCell (p := ⟨gq + 1 + 1, 0, none⟩) (by simp; omega) _).setCell (p := ⟨gq + 1 + 1, 1, none⟩) (by simp; omega) _).setCell (p := ⟨gq + 1 + 1, 2, none⟩) (by simp; omega) _).setCell (p := ⟨gq + 1 + 1, 3, none⟩) (by simp; omega) _).setCell (p := ⟨gq + 1 + 1, 4, none⟩) (by simp; omega) _).setCell (p := ⟨gq + 1 + 1, 5, none⟩) (by simp; omega) _).setCell (p := ⟨gq + 1 + 1, 6, none⟩) (by simp; omega) _).setCell (p := ⟨gq + 1 + 1, 7, none⟩) (by simp; omega) _).setCell (p := ⟨gq + 1 + 1, 8, none⟩) (by simp; omega) _), (((((((((h.A.set_ne _ _ _ (by omega)).set_ne _ _ _ (by omega)).set_ne _ _ _ (by omega)).set_ne _ _ _ (by omega)).set_ne _ _ _ (by omega)).set_ne _ _ _ (by omega)).set_ne _ _ _ (by omega)).set_ne _ _ _ (by omega)).set_ne _ _ _ (by omega)), (((((((((h.B.set_ne _ _ _ (by omega)).set_ne _ _ _ (by omega)).set_ne _ _ _ (by omega)).set_ne _ _ _ (by omega)).set_ne _ _ _ (by omega)).set_ne _ _ _ (by omega)).set_ne _ _ _ (by omega)).set_ne _ _ _ (by omega)).set_ne _ _ _ (by omega)), (((((((((h.D.set_ne _ _ _ (by omega)).set_ne _ _ _ (by omega)).set_ne _ _ _ (by omega)).set_ne _ _ _ (by omega)).set_ne _ _ _ (by omega)).set_ne _ _ _ (by omega)).set_ne _ _ _ (by omega)).set_ne _ _ _ (by omega)).set_ne _ _ _ (by omega)), (((((((((h.X.set_ne _ _ _ (by omega)).set_ne _ _ _ (by omega)).set_ne _ _ _ (by omega)).set_ne _ _ _ (by omega)).set_ne _ _ _ (by omega)).set_ne _ _ _ (by omega)).set_ne _ _ _ (by omega)).set_ne _ _ _ (by omega)).set_ne _ _ _ (by omega)), (((((((((h.Q.set_ne _ _ _ (by omega)).set_ne _ _ _ (by omega)).set_ne _ _ _ (by omega)).set_ne _ _ _ (by omega)).set_ne _ _ _ (by omega)).set_ne _ _ _ (by omega)).set_ne _ _ _ (by omega)).set_ne _ _ _ (by omega)).set_ne _ _ _ (by omega)), (((((((((h.U.set_ne _ _ _ (by omega)).set_ne _ _ _ (by omega)).set_ne _ _ _ (by omega)).set_ne _ _ _ (by omega)).set_ne _ _ _ (by omega)).set_ne _ _ _ (by omega)).set_ne _ _ _ (by omega)).set_ne _ _ _ (by omega)).set_ne _ _ _ (by omega)), h.V.setAll z, h1, h2, h3⟩
end
set_option maxHeartbeats 3200000 in
set_option maxRecDepth 100000 in
theorem selectorMeets_walk (p : Option Addr) (n c : Nat) (xs : List Int) (w : World) (h : Byt w p n c xs) (b0 : c ≤ 140737488351232) :
    Calls Try.prog 11 #[.slice p n c] w fun e w' => e = .returned (.bool true) ∧ Below w.heap.size w w' := by
  have HX := hidden h
  have HA := hidden (awake05_any w)
  clear h
  go_enter Try.func11, Try.ntmps11
  go_upto_region 5 with (first
    | (go_at_call 26; (with_reducible refine (HA.out).mono ?_); rintro e w1 ⟨rfl, hb⟩; have HB1 := hidden hb; clear hb HA)
    | (go_at_call 13; (refine (new_any w p n c xs _ HX.out HB1.out 160 (by omega)).mono ?_); rintro e w2 ⟨rfl, hc, hb⟩; have HC2 := hidden hc; clear hc hb HB1 HX)
    | (go_at_call 41; (with_reducible refine (sel_any w _ _ HC2.out 4 (Or.inl rfl)).mono ?_); rintro e w3 ⟨a, rfl, hda, hc, -⟩; have HDA := hidden hda; have HC3 := hidden hc; clear hda hc HC2)
    | (go_at_call 41; (with_reducible refine (sel_any w _ _ HC3.out 4 (Or.inl rfl)).mono ?_); rintro e w4 ⟨b, rfl, hdb, hc, -⟩; have HDB := hidden hdb; have HC4 := hidden hc; clear hdb hc HC3)
    | (go_at_call 41; (with_reducible refine (sel_any w _ _ HC4.out 4 (Or.inl rfl)).mono ?_); rintro e w5 ⟨d, rfl, hdd, hc, -⟩; have HDD := hidden hdd; have HB5 := hidden hc.bel; clear hdd hc HC4)
    | fail)
  obtain ⟨x, q, u, v, ok, f, g, h, hmm⟩ := meets HDA.out HDB.out HDD.out
  have HMM := hidden hmm
  have M1 := hidden (meet_at a b x ok hmm.m1)
  have M2 := hidden (meet_at b a x ok hmm.m2)
  have M3 := hidden (meet_at a a a true hmm.m3)
  have M4 := hidden (meet_at b d q f hmm.m4)
  have M5 := hidden (meet_at x d u g hmm.m5)
  have M6 := hidden (meet_at a q v h hmm.m6)
  have MI := hidden (inside_any a b)
  rw [hmm.ins] at MI
  clear hmm HDA HDB HDD
  have SA := hidden (((SlIn.new w5 a 58).alloc (.cells #[.int .i64 b.p, .int .i64 b.a, .int .i64 b.b, .int .i64 b.lo.f, .int .u64 b.lo.h, .int .u64 b.lo.l, .int .i64 b.hi.f, .int .u64 b.hi.h, .int .u64 b.hi.l] 58)).alloc (.cells #[.int .i64 d.p, .int .i64 d.a, .int .i64 d.b, .int .i64 d.lo.f, .int .u64 d.lo.h, .int .u64 d.lo.l, .int .i64 d.hi.f, .int .u64 d.hi.h, .int .u64 d.hi.l] 58))
  have SB : Hid (SlIn (((w5.alloc (.cells #[.int .i64 a.p, .int .i64 a.a, .int .i64 a.b, .int .i64 a.lo.f, .int .u64 a.lo.h, .int .u64 a.lo.l, .int .i64 a.hi.f, .int .u64 a.hi.h, .int .u64 a.hi.l] 58)).alloc (.cells #[.int .i64 b.p, .int .i64 b.a, .int .i64 b.b, .int .i64 b.lo.f, .int .u64 b.lo.h, .int .u64 b.lo.l, .int .i64 b.hi.f, .int .u64 b.hi.h, .int .u64 b.hi.l] 58)).alloc (.cells #[.int .i64 d.p, .int .i64 d.a, .int .i64 d.b, .int .i64 d.lo.f, .int .u64 d.lo.h, .int .u64 d.lo.l, .int .i64 d.hi.f, .int .u64 d.hi.h, .int .u64 d.hi.l] 58)) (w5.heap.size + 1) b) := hidden (by
    have := (SlIn.new (w5.alloc (.cells #[.int .i64 a.p, .int .i64 a.a, .int .i64 a.b, .int .i64 a.lo.f, .int .u64 a.lo.h, .int .u64 a.lo.l, .int .i64 a.hi.f, .int .u64 a.hi.h, .int .u64 a.hi.l] 58)) b 58).alloc (.cells #[.int .i64 d.p, .int .i64 d.a, .int .i64 d.b, .int .i64 d.lo.f, .int .u64 d.lo.h, .int .u64 d.lo.l, .int .i64 d.hi.f, .int .u64 d.hi.h, .int .u64 d.hi.l] 58)
    simpa using this)
  have SD : Hid (SlIn (((w5.alloc (.cells #[.int .i64 a.p, .int .i64 a.a, .int .i64 a.b, .int .i64 a.lo.f, .int .u64 a.lo.h, .int .u64 a.lo.l, .int .i64 a.hi.f, .int .u64 a.hi.h, .int .u64 a.hi.l] 58)).alloc (.cells #[.int .i64 b.p, .int .i64 b.a, .int .i64 b.b, .int .i64 b.lo.f, .int .u64 b.lo.h, .int .u64 b.lo.l, .int .i64 b.hi.f, .int .u64 b.hi.h, .int .u64 b.hi.l] 58)).alloc (.cells #[.int .i64 d.p, .int .i64 d.a, .int .i64 d.b, .int .i64 d.lo.f, .int .u64 d.lo.h, .int .u64 d.lo.l, .int .i64 d.hi.f, .int .u64 d.hi.h, .int .u64 d.hi.l] 58)) (w5.heap.size + 1 + 1) d) := hidden (by
    have := (SlIn.new ((w5.alloc (.cells #[.int .i64 a.p, .int .i64 a.a, .int .i64 a.b, .int .i64 a.lo.f, .int .u64 a.lo.h, .int .u64 a.lo.l, .int .i64 a.hi.f, .int .u64 a.hi.h, .int .u64 a.hi.l] 58)).alloc (.cells #[.int .i64 b.p, .int .i64 b.a, .int .i64 b.b, .int .i64 b.lo.f, .int .u64 b.lo.h, .int .u64 b.lo.l, .int .i64 b.hi.f, .int .u64 b.hi.h, .int .u64 b.hi.l] 58)) d 58)
    simpa using this)
  have HB6 := hidden (((HB5.out.alloc HB5.out.size (.cells #[.int .i64 a.p, .int .i64 a.a, .int .i64 a.b, .int .i64 a.lo.f, .int .u64 a.lo.h, .int .u64 a.lo.l, .int .i64 a.hi.f, .int .u64 a.hi.h, .int .u64 a.hi.l] 58)).alloc (by have := HB5.out.size; simp; omega) (.cells #[.int .i64 b.p, .int .i64 b.a, .int .i64 b.b, .int .i64 b.lo.f, .int .u64 b.lo.h, .int .u64 b.lo.l, .int .i64 b.hi.f, .int .u64 b.hi.h, .int .u64 b.hi.l] 58)).alloc (by have := HB5.out.size; simp; omega) (.cells #[.int .i64 d.p, .int .i64 d.a, .int .i64 d.b, .int .i64 d.lo.f, .int .u64 d.lo.h, .int .u64 d.lo.l, .int .i64 d.hi.f, .int .u64 d.hi.h, .int .u64 d.hi.l] 58))
  generalize hw6 : ((w5.alloc (.cells #[.int .i64 a.p, .int .i64 a.a, .int .i64 a.b, .int .i64 a.lo.f, .int .u64 a.lo.h, .int .u64 a.lo.l, .int .i64 a.hi.f, .int .u64 a.hi.h, .int .u64 a.hi.l] 58)).alloc (.cells #[.int .i64 b.p, .int .i64 b.a, .int .i64 b.b, .int .i64 b.lo.f, .int .u64 b.lo.h, .int .u64 b.lo.l, .int .i64 b.hi.f, .int .u64 b.hi.h, .int .u64 b.hi.l] 58)).alloc (.cells #[.int .i64 d.p, .int .i64 d.a, .int .i64 d.b, .int .i64 d.lo.f, .int .u64 d.lo.h, .int .u64 d.lo.l, .int .i64 d.hi.f, .int .u64 d.hi.h, .int .u64 d.hi.l] 58) = w6 at *
  clear hw6 HB5
  generalize w5.heap.size = gn at *
  obtain ⟨a0, a1, a2, a3, a4, a5, a6, a7, a8, af⟩ := SA.out
  obtain ⟨b0, b1, b2, b3, b4, b5, b6, b7, b8, bf⟩ := SB.out
  go_upto_region 6 with (first
    | (go_at_call 42; (with_reducible refine (M1.out _).mono ?_); rintro e w7 ⟨rfl, hb⟩; have HB7 := hidden ((HB6.out.trans (hb.mono HB6.out.size)).alloc (HB6.out.trans (hb.mono HB6.out.size)).size (.cells #[.int .i64 x.p, .int .i64 x.a, .int .i64 x.b, .int .i64 x.lo.f, .int .u64 x.lo.h, .int .u64 x.lo.l, .int .i64 x.hi.f, .int .u64 x.hi.h, .int .u64 x.hi.l] 58)); have SA7 := hidden ((SA.out.below hb).alloc (.cells #[.int .i64 x.p, .int .i64 x.a, .int .i64 x.b, .int .i64 x.lo.f, .int .u64 x.lo.h, .int .u64 x.lo.l, .int .i64 x.hi.f, .int .u64 x.hi.h, .int .u64 x.hi.l] 58)); have SB7 := hidden ((SB.out.below hb).alloc (.cells #[.int .i64 x.p, .int .i64 x.a, .int .i64 x.b, .int .i64 x.lo.f, .int .u64 x.lo.h, .int .u64 x.lo.l, .int .i64 x.hi.f, .int .u64 x.hi.h, .int .u64 x.hi.l] 58)); have SD7 := hidden ((SD.out.below hb).alloc (.cells #[.int .i64 x.p, .int .i64 x.a, .int .i64 x.b, .int .i64 x.lo.f, .int .u64 x.lo.h, .int .u64 x.lo.l, .int .i64 x.hi.f, .int .u64 x.hi.h, .int .u64 x.hi.l] 58)); have SX7 := hidden (SlIn.new w7 x 58); clear hb; clear a0 a1 a2 a3 a4 a5 a6 a7 a8 b0 b1 b2 b3 b4 b5 b6 b7 b8 af bf; clear M1 SA SB SD HB6)
    | fail)
  generalize hw8 : w7.alloc (.cells #[.int .i64 x.p, .int .i64 x.a, .int .i64 x.b, .int .i64 x.lo.f, .int .u64 x.lo.h, .int .u64 x.lo.l, .int .i64 x.hi.f, .int .u64 x.hi.h, .int .u64 x.hi.l] 58) = w8 at *
  clear hw8
  generalize w7.heap.size = gx at *
  obtain ⟨a0, a1, a2, a3, a4, a5, a6, a7, a8, af⟩ := SA7.out
  obtain ⟨b0, b1, b2, b3, b4, b5, b6, b7, b8, bf⟩ := SB7.out
  go_upto_region 7 with (first
    | (go_at_call 42; (with_reducible refine (M2.out _).mono ?_); rintro e w9 ⟨rfl, hb⟩; have HB9 := hidden ((HB7.out.trans (hb.mono HB7.out.size)).alloc (HB7.out.trans (hb.mono HB7.out.size)).size (.cells #[.int .i64 x.p, .int .i64 x.a, .int .i64 x.b, .int .i64 x.lo.f, .int .u64 x.lo.h, .int .u64 x.lo.l, .int .i64 x.hi.f, .int .u64 x.hi.h, .int .u64 x.hi.l] 58)); have SA9 := hidden ((SA7.out.below hb).alloc (.cells #[.int .i64 x.p, .int .i64 x.a, .int .i64 x.b, .int .i64 x.lo.f, .int .u64 x.lo.h, .int .u64 x.lo.l, .int .i64 x.hi.f, .int .u64 x.hi.h, .int .u64 x.hi.l] 58)); have SB9 := hidden ((SB7.out.below hb).alloc (.cells #[.int .i64 x.p, .int .i64 x.a, .int .i64 x.b, .int .i64 x.lo.f, .int .u64 x.lo.h, .int .u64 x.lo.l, .int .i64 x.hi.f, .int .u64 x.hi.h, .int .u64 x.hi.l] 58)); have SD9 := hidden ((SD7.out.below hb).alloc (.cells #[.int .i64 x.p, .int .i64 x.a, .int .i64 x.b, .int .i64 x.lo.f, .int .u64 x.lo.h, .int .u64 x.lo.l, .int .i64 x.hi.f, .int .u64 x.hi.h, .int .u64 x.hi.l] 58)); have SX9 := hidden ((SX7.out.below hb).alloc (.cells #[.int .i64 x.p, .int .i64 x.a, .int .i64 x.b, .int .i64 x.lo.f, .int .u64 x.lo.h, .int .u64 x.lo.l, .int .i64 x.hi.f, .int .u64 x.hi.h, .int .u64 x.hi.l] 58)); have SY9 := hidden (SlIn.new w9 x 58); clear hb; clear a0 a1 a2 a3 a4 a5 a6 a7 a8 b0 b1 b2 b3 b4 b5 b6 b7 b8 af bf; clear M2 SA7 SB7 SD7 SX7 HB7)
    | fail)
  generalize hw10 : w9.alloc (.cells #[.int .i64 x.p, .int .i64 x.a, .int .i64 x.b, .int .i64 x.lo.f, .int .u64 x.lo.h, .int .u64 x.lo.l, .int .i64 x.hi.f, .int .u64 x.hi.h, .int .u64 x.hi.l] 58) = w10 at *
  clear hw10
  generalize w9.heap.size = gy at *
  obtain ⟨a0, a1, a2, a3, a4, a5, a6, a7, a8, af⟩ := SA9.out
  go_upto_region 8 with (first
    | (go_at_call 42; (with_reducible refine (M3.out _).mono ?_); rintro e w11 ⟨rfl, hb⟩; have HB11 := hidden ((HB9.out.trans (hb.mono HB9.out.size)).alloc (HB9.out.trans (hb.mono HB9.out.size)).size (.cells #[.int .i64 a.p, .int .i64 a.a, .int .i64 a.b, .int .i64 a.lo.f, .int .u64 a.lo.h, .int .u64 a.lo.l, .int .i64 a.hi.f, .int .u64 a.hi.h, .int .u64 a.hi.l] 58)); have SA11 := hidden ((SA9.out.below hb).alloc (.cells #[.int .i64 a.p, .int .i64 a.a, .int .i64 a.b, .int .i64 a.lo.f, .int .u64 a.lo.h, .int .u64 a.lo.l, .int .i64 a.hi.f, .int .u64 a.hi.h, .int .u64 a.hi.l] 58)); have SB11 := hidden ((SB9.out.below hb).alloc (.cells #[.int .i64 a.p, .int .i64 a.a, .int .i64 a.b, .int .i64 a.lo.f, .int .u64 a.lo.h, .int .u64 a.lo.l, .int .i64 a.hi.f, .int .u64 a.hi.h, .int .u64 a.hi.l] 58)); have SD11 := hidden ((SD9.out.below hb).alloc (.cells #[.int .i64 a.p, .int .i64 a.a, .int .i64 a.b, .int .i64 a.lo.f, .int .u64 a.lo.h, .int .u64 a.lo.l, .int .i64 a.hi.f, .int .u64 a.hi.h, .int .u64 a.hi.l] 58)); have SX11 := hidden ((SX9.out.below hb).alloc (.cells #[.int .i64 a.p, .int .i64 a.a, .int .i64 a.b, .int .i64 a.lo.f, .int .u64 a.lo.h, .int .u64 a.lo.l, .int .i64 a.hi.f, .int .u64 a.hi.h, .int .u64 a.hi.l] 58)); have SY11 := hidden ((SY9.out.below hb).alloc (.cells #[.int .i64 a.p, .int .i64 a.a, .int .i64 a.b, .int .i64 a.lo.f, .int .u64 a.lo.h, .int .u64 a.lo.l, .int .i64 a.hi.f, .int .u64 a.hi.h, .int .u64 a.hi.l] 58)); have SS11 := hidden (SlIn.new w11 a 58); clear hb; clear a0 a1 a2 a3 a4 a5 a6 a7 a8 af; clear M3 SA9 SB9 SD9 SX9 SY9 HB9)
    | fail)
  generalize hw12 : w11.alloc (.cells #[.int .i64 a.p, .int .i64 a.a, .int .i64 a.b, .int .i64 a.lo.f, .int .u64 a.lo.h, .int .u64 a.lo.l, .int .i64 a.hi.f, .int .u64 a.hi.h, .int .u64 a.hi.l] 58) = w12 at *
  clear hw12
  generalize w11.heap.size = gs at *
  obtain ⟨a0, a1, a2, a3, a4, a5, a6, a7, a8, af⟩ := SA11.out
  obtain ⟨x0, x1, x2, x3, x4, x5, x6, x7, x8, xf⟩ := SX11.out
  obtain ⟨y0, y1, y2, y3, y4, y5, y6, y7, y8, yf⟩ := SY11.out
  obtain ⟨s0, s1, s2, s3, s4, s5, s6, s7, s8, sf⟩ := SS11.out
  have hoo : (ok != ok) = false := by simp
  go_upto_region 10 with fail
  clear hoo
  clear a0 a1 a2 a3 a4 a5 a6 a7 a8 x0 x1 x2 x3 x4 x5 x6 x7 x8 y0 y1 y2 y3 y4 y5 y6 y7 y8 s0 s1 s2 s3 s4 s5 s6 s7 s8 af xf yf sf
  obtain ⟨b0, b1, b2, b3, b4, b5, b6, b7, b8, bf⟩ := SB11.out
  obtain ⟨d0, d1, d2, d3, d4, d5, d6, d7, d8, df⟩ := SD11.out
  have hln : gn + 1 + 1 < w12.heap.size := SD11.out.lt
  have hlx : gx < w12.heap.size := SX11.out.lt
  go_upto_region 13 with (first
    | (go_at_call 42; (with_reducible refine (M4.out _).mono ?_); rintro e w13 ⟨rfl, hb⟩; have hz13 := hb.size; have HL := hidden (show ML w (((w13.alloc (.cells #[.int .i64 q.p, .int .i64 q.a, .int .i64 q.b, .int .i64 q.lo.f, .int .u64 q.lo.h, .int .u64 q.lo.l, .int .i64 q.hi.f, .int .u64 q.hi.h, .int .u64 q.hi.l] 58)).alloc (.cells #[.int .i64 0, .int .i64 0, .int .i64 0, .int .i64 0, .int .u64 0, .int .u64 0, .int .i64 0, .int .u64 0, .int .u64 0] 58)).alloc (.cells #[.int .i64 0, .int .i64 0, .int .i64 0, .int .i64 0, .int .u64 0, .int .u64 0, .int .i64 0, .int .u64 0, .int .u64 0] 58)) gn gx w13.heap.size a b d x q zeroS zeroS from ⟨(((HB11.out.trans (hb.mono HB11.out.size)).alloc (HB11.out.trans (hb.mono HB11.out.size)).size _).alloc (by have := HB11.out.size; simp; omega) _).alloc (by have := HB11.out.size; simp; omega) _, (((SA11.out.below hb).alloc _).alloc _).alloc _, (((SB11.out.below hb).alloc _).alloc _).alloc _, (((SD11.out.below hb).alloc _).alloc _).alloc _, (((SX11.out.below hb).alloc _).alloc _).alloc _, ((SlIn.new w13 q 58).alloc _).alloc _, (by have := (SlIn.new (w13.alloc (.cells #[.int .i64 q.p, .int .i64 q.a, .int .i64 q.b, .int .i64 q.lo.f, .int .u64 q.lo.h, .int .u64 q.lo.l, .int .i64 q.hi.f, .int .u64 q.hi.h, .int .u64 q.hi.l] 58)) zeroS 58).alloc (.cells #[.int .i64 0, .int .i64 0, .int .i64 0, .int .i64 0, .int .u64 0, .int .u64 0, .int .i64 0, .int .u64 0, .int .u64 0] 58); simpa [zeroS, zeroA] using this), (by have := (SlIn.new ((w13.alloc (.cells #[.int .i64 q.p, .int .i64 q.a, .int .i64 q.b, .int .i64 q.lo.f, .int .u64 q.lo.h, .int .u64 q.lo.l, .int .i64 q.hi.f, .int .u64 q.hi.h, .int .u64 q.hi.l] 58)).alloc (.cells #[.int .i64 0, .int .i64 0, .int .i64 0, .int .i64 0, .int .u64 0, .int .u64 0, .int .i64 0, .int .u64 0, .int .u64 0] 58)) zeroS 58); simpa [zeroS, zeroA] using this), by omega, by omega, by have := HB11.out.size; omega⟩); clear hb; clear M4 SA11 SB11 SD11 SX11 SY11 SS11 HB11)
    | fail)
  generalize hw14 : ((w13.alloc (.cells #[.int .i64 q.p, .int .i64 q.a, .int .i64 q.b, .int .i64 q.lo.f, .int .u64 q.lo.h, .int .u64 q.lo.l, .int .i64 q.hi.f, .int .u64 q.hi.h, .int .u64 q.hi.l] 58)).alloc (.cells #[.int .i64 0, .int .i64 0, .int .i64 0, .int .i64 0, .int .u64 0, .int .u64 0, .int .i64 0, .int .u64 0, .int .u64 0] 58)).alloc (.cells #[.int .i64 0, .int .i64 0, .int .i64 0, .int .i64 0, .int .u64 0, .int .u64 0, .int .i64 0, .int .u64 0, .int .u64 0] 58) = w14 at *
  clear hw14 b0 b1 b2 b3 b4 b5 b6 b7 b8 bf d0 d1 d2 d3 d4 d5 d6 d7 d8 df hln hlx hz13
  generalize w13.heap.size = gq at *
  go_upto_if 72 with fail
  go_cut [16] from 73 to 78 (fun gv wx => ∃ (U : Sl) (G : Bool), gv = .bool G ∧ (ok = true → U = u ∧ G = g) ∧ (ok = false → U = zeroS ∧ G = false) ∧ ML w wx gn gx gq a b d x q U zeroS)
  case first =>
    obtain ⟨x0, x1, x2, x3, x4, x5, x6, x7, x8, xf⟩ := HL.out.X
    obtain ⟨d0, d1, d2, d3, d4, d5, d6, d7, d8, df⟩ := HL.out.D
    cases ok with
    | false =>
      go_wp2
      go_meet
      case rel => exact ⟨zeroS, false, rfl, (fun e => by cases e), fun _ => ⟨rfl, rfl⟩, HL.out⟩
    | true =>
      go_wp2_with (first
        | (go_at_call 42; (with_reducible refine (M5.out _).mono ?_); rintro e w15 ⟨rfl, hb⟩; have HL1 := hidden (HL.out.below hb); obtain ⟨r0, r1, r2, r3, r4, r5, r6, r7, r8, rf⟩ := HL1.out.U; clear hb)
        | fail)
      go_meet
      case rel => exact ⟨u, g, rfl, fun _ => ⟨rfl, rfl⟩, (fun e => by cases e), HL1.out.setU u⟩
  case rest =>
    obtain ⟨U, G, rfl, hu1, hu2, hml⟩ := hcut
    have HL2 := hidden hml
    clear hml HL M5
    go_upto_if 79 with fail
    go_cut [18] from 80 to 85 (fun gv wx => ∃ (V : Sl) (H : Bool), gv = .bool H ∧ (f = true → V = v ∧ H = h) ∧ (f = false → V = zeroS ∧ H = false) ∧ ML w wx gn gx gq a b d x q U V)
    case first =>
      obtain ⟨a0, a1, a2, a3, a4, a5, a6, a7, a8, af⟩ := HL2.out.A
      obtain ⟨q0, q1, q2, q3, q4, q5, q6, q7, q8, qf⟩ := HL2.out.Q
      cases f with
      | false =>
        go_wp2
        go_meet
        case rel => exact ⟨zeroS, false, rfl, (fun e => by cases e), fun _ => ⟨rfl, rfl⟩, HL2.out⟩
      | true =>
        go_wp2_with (first
          | (go_at_call 42; (with_reducible refine (M6.out _).mono ?_); rintro e w15 ⟨rfl, hb⟩; have HL3 := hidden (HL2.out.below hb); obtain ⟨r0, r1, r2, r3, r4, r5, r6, r7, r8, rf⟩ := HL3.out.V; clear hb)
          | fail)
        go_meet
        case rel => exact ⟨v, h, rfl, fun _ => ⟨rfl, rfl⟩, (fun e => by cases e), HL3.out.setV v⟩
    case rest =>
      obtain ⟨V, H, rfl, hv1, hv2, hml⟩ := hcut
      obtain ⟨rfl, rfl⟩ : U = V ∧ G = H := by
        have m := HMM.out
        cases ok <;> cases f
        · obtain ⟨e1, e2⟩ := hu2 rfl
          obtain ⟨e3, e4⟩ := hv2 rfl
          exact ⟨e1.trans e3.symm, e2.trans e4.symm⟩
        · obtain ⟨e1, e2⟩ := hu2 rfl
          obtain ⟨e3, e4⟩ := hv1 rfl
          obtain ⟨e5, e6⟩ := m.right rfl rfl
          exact ⟨e1.trans (e3.trans e5).symm, e2.trans (e4.trans e6).symm⟩
        · obtain ⟨e1, e2⟩ := hu1 rfl
          obtain ⟨e3, e4⟩ := hv2 rfl
          obtain ⟨e5, e6⟩ := m.left rfl rfl
          exact ⟨(e1.trans e5).trans e3.symm, (e2.trans e6).trans e4.symm⟩
        · obtain ⟨e1, e2⟩ := hu1 rfl
          obtain ⟨e3, e4⟩ := hv1 rfl
          obtain ⟨e5, e6⟩ := m.both rfl rfl
          exact ⟨e1.trans (e5.trans e3.symm), e2.trans (e6.trans e4.symm)⟩
      have HL4 := hidden hml
      clear hml HL2 M6 HMM hu1 hu2 hv1 hv2
      obtain ⟨u0, u1, u2, u3, u4, u5, u6, u7, u8, uf⟩ := HL4.out.U
      obtain ⟨v0, v1, v2, v3, v4, v5, v6, v7, v8, vf⟩ := HL4.out.V
      obtain ⟨a0, a1, a2, a3, a4, a5, a6, a7, a8, af⟩ := HL4.out.A
      obtain ⟨b0, b1, b2, b3, b4, b5, b6, b7, b8, bf⟩ := HL4.out.B
      have hGG : (G == G) = true := by simp
      cases ok with
      | false =>
        go_wp2_with (first
          | (go_at_call 43; (with_reducible refine (MI.out _).mono ?_); rintro e w15 ⟨rfl, hb⟩; have HL5 := hidden (HL4.out.below hb); clear hb)
          | fail)
        go_ret
        exact ⟨rfl, HL5.out.bel⟩
      | true =>
        by_cases hxa : x = a
        · subst hxa
          go_wp2_with (first
            | (go_at_call 43; (with_reducible refine (MI.out _).mono ?_); rintro e w15 ⟨rfl, hb⟩; have HL5 := hidden (HL4.out.below hb); obtain ⟨x0, x1, x2, x3, x4, x5, x6, x7, x8, xf⟩ := HL5.out.X; obtain ⟨c0, c1, c2, c3, c4, c5, c6, c7, c8, cf⟩ := HL5.out.A; clear hb)
            | fail)
          go_ret
          exact ⟨rfl, HL5.out.bel⟩
        · rw [Bool.true_and, decide_eq_false hxa] at MI
          have HXA := hidden hxa
          clear hxa
          go_wp2_with (first
            | (go_at_call 43; (with_reducible refine (MI.out _).mono ?_); rintro e w15 ⟨rfl, hb⟩; have HL5 := hidden (HL4.out.below hb); obtain ⟨x0, x1, x2, x3, x4, x5, x6, x7, x8, xf⟩ := HL5.out.X; obtain ⟨c0, c1, c2, c3, c4, c5, c6, c7, c8, cf⟩ := HL5.out.A; clear hb)
            | fail)
          all_goals go_ret
          all_goals first
            | exact ⟨rfl, HL5.out.bel⟩
            | (exfalso
               apply HXA.out
               clear HL4 HL5 SY11 SS11 HDA HDB
               obtain ⟨cp, ca, cb, ⟨clf, clh, cll⟩, ⟨chf, chh, chl⟩⟩ := x
               obtain ⟨ap, aa, ab, ⟨alf, alh, all⟩, ⟨ahf, ahh, ahl⟩⟩ := a
               simp_all)
            | (exfalso
               apply HXA.out
               obtain ⟨cp, ca, cb, ⟨clf, clh, cll⟩, ⟨chf, chh, chl⟩⟩ := x
               obtain ⟨ap, aa, ab, ⟨alf, alh, all⟩, ⟨ahf, ahh, ahl⟩⟩ := a
               simp_all)
            | fail
end Go.Proofs.Ytnehhpkdfkemaaa
