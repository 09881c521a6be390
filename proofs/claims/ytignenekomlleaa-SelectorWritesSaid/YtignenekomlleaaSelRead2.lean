/-
  What package selector's readOne returns, for any bytes.
-/
import Derived.Test.YtignenekomlleaaSelRead1
import Derived.Test.YtignenekomlleaaSelFns
namespace Go.Proofs.Ytignenekomlleaa
open Go.RowKit
set_option linter.unusedVariables false

theorem ret_sl3 {fn : Func} {R : Ending → World → Prop} {a : Act} {w : World} {p x y : Nat} {g : Nat} {s : Sl} {u v : Value} (h : fn.results = #[.cell p 48, .tmp x, .tmp y]) (hp : a.tmps.getD p undef = .pointer (some ⟨g, 0, none⟩)) (hu : a.tmps.getD x undef = u) (hv : a.tmps.getD y undef = v) (hd : a.defers = [])
    (hh : SlIn w g s) (hR : R (.returned (.tuple #[(.agg #[.int .i64 s.p, .int .i64 s.a, .int .i64 s.b, .int .i64 s.lo.f, .int .u64 s.lo.h, .int .u64 s.lo.l, .int .i64 s.hi.f, .int .u64 s.hi.h, .int .u64 s.hi.l]), u, v])) w) : bodyPost Try.prog fn R .ret a w := by
  refine bodyPost_ret (v := .tuple #[(.agg #[.int .i64 s.p, .int .i64 s.a, .int .i64 s.b, .int .i64 s.lo.f, .int .u64 s.lo.h, .int .u64 s.lo.l, .int .i64 s.hi.f, .int .u64 s.hi.h, .int .u64 s.hi.l]), u, v]) ?_ hd hR
  rw [Array.getD_eq_getD_getElem?] at hp hu hv
  simp [results, h, hp, hu, hv, asAddr, load_sl hh, Result.andThen]
theorem put_lohi {w : World} {B M R : Nat} {m r : Sl} (hr : SlIn w R r) (hne : R ≠ M) (h1 : B ≤ M) (h2 : B ≤ R) (z1 z2 : Ad) : SlIn (((((((((((((((w.setCell ⟨M, 3, none⟩ (.int .i64 z1.f)).setCell ⟨M, 4, none⟩ (.int .u64 z1.h)).setCell ⟨M, 5, none⟩ (.int .u64 z1.l)).setCell ⟨M, 6, none⟩ (.int .i64 z2.f)).setCell ⟨M, 7, none⟩ (.int .u64 z2.h)).setCell ⟨M, 8, none⟩ (.int .u64 z2.l)).setCell ⟨R, 0, none⟩ (.int .i64 m.p)).setCell ⟨R, 1, none⟩ (.int .i64 m.a)).setCell ⟨R, 2, none⟩ (.int .i64 m.b)).setCell ⟨R, 3, none⟩ (.int .i64 z1.f)).setCell ⟨R, 4, none⟩ (.int .u64 z1.h)).setCell ⟨R, 5, none⟩ (.int .u64 z1.l)).setCell ⟨R, 6, none⟩ (.int .i64 z2.f)).setCell ⟨R, 7, none⟩ (.int .u64 z2.h)).setCell ⟨R, 8, none⟩ (.int .u64 z2.l)) R { m with lo := z1, hi := z2 } ∧ (∀ W : World, W.heap.size = B → Below B W w → Below B W (((((((((((((((w.setCell ⟨M, 3, none⟩ (.int .i64 z1.f)).setCell ⟨M, 4, none⟩ (.int .u64 z1.h)).setCell ⟨M, 5, none⟩ (.int .u64 z1.l)).setCell ⟨M, 6, none⟩ (.int .i64 z2.f)).setCell ⟨M, 7, none⟩ (.int .u64 z2.h)).setCell ⟨M, 8, none⟩ (.int .u64 z2.l)).setCell ⟨R, 0, none⟩ (.int .i64 m.p)).setCell ⟨R, 1, none⟩ (.int .i64 m.a)).setCell ⟨R, 2, none⟩ (.int .i64 m.b)).setCell ⟨R, 3, none⟩ (.int .i64 z1.f)).setCell ⟨R, 4, none⟩ (.int .u64 z1.h)).setCell ⟨R, 5, none⟩ (.int .u64 z1.l)).setCell ⟨R, 6, none⟩ (.int .i64 z2.f)).setCell ⟨R, 7, none⟩ (.int .u64 z2.h)).setCell ⟨R, 8, none⟩ (.int .u64 z2.l))) :=
  ⟨((((((hr.set_ne _ _ _ hne).set_ne _ _ _ hne).set_ne _ _ _ hne).set_ne _ _ _ hne).set_ne _ _ _ hne).set_ne _ _ _ hne).setAll { m with lo := z1, hi := z2 }, fun W hW hb => (((((((((((((((hb.setCell (p := ⟨M, 3, none⟩) (by simp <;> omega) _).setCell (p := ⟨M, 4, none⟩) (by simp <;> omega) _).setCell (p := ⟨M, 5, none⟩) (by simp <;> omega) _).setCell (p := ⟨M, 6, none⟩) (by simp <;> omega) _).setCell (p := ⟨M, 7, none⟩) (by simp <;> omega) _).setCell (p := ⟨M, 8, none⟩) (by simp <;> omega) _).setCell (p := ⟨R, 0, none⟩) (by simp <;> omega) _).setCell (p := ⟨R, 1, none⟩) (by simp <;> omega) _).setCell (p := ⟨R, 2, none⟩) (by simp <;> omega) _).setCell (p := ⟨R, 3, none⟩) (by simp <;> omega) _).setCell (p := ⟨R, 4, none⟩) (by simp <;> omega) _).setCell (p := ⟨R, 5, none⟩) (by simp <;> omega) _).setCell (p := ⟨R, 6, none⟩) (by simp <;> omega) _).setCell (p := ⟨R, 7, none⟩) (by simp <;> omega) _).setCell (p := ⟨R, 8, none⟩) (by simp <;> omega) _)⟩
/-- What readOne returns. -/
def ReadS (w : World) (r : Option (Sl × Nat)) (e : Ending) (w' : World) : Prop := Below w.heap.size w w' ∧ match r with
  | none => e = .returned (.tuple #[(.agg #[.int .i64 zeroS.p, .int .i64 zeroS.a, .int .i64 zeroS.b, .int .i64 zeroS.lo.f, .int .u64 zeroS.lo.h, .int .u64 zeroS.lo.l, .int .i64 zeroS.hi.f, .int .u64 zeroS.hi.h, .int .u64 zeroS.hi.l]), .int .i64 0, .bool false])
  | some (s, k) => e = .returned (.tuple #[(.agg #[.int .i64 s.p, .int .i64 s.a, .int .i64 s.b, .int .i64 s.lo.f, .int .u64 s.lo.h, .int .u64 s.lo.l, .int .i64 s.hi.f, .int .u64 s.hi.h, .int .u64 s.hi.l]), .int .i64 k, .bool true])

set_option maxHeartbeats 1600000 in
set_option maxRecDepth 100000 in
theorem readOne_any (p : Option Addr) (n c : Nat) (xs : List Int) (w : World) (h : Byt w p n c xs) (r : Option (Sl × Nat)) (hr : oneS xs = r) :
    Calls Try.prog 72 #[.slice p n c] w (ReadS w r) := by
  obtain ⟨K, hK⟩ : ∃ K, (numR xs 0 1).1 = K := ⟨_, rfl⟩
  obtain ⟨Z, hZ⟩ : ∃ Z, (numR xs 2 2).1 = Z := ⟨_, rfl⟩
  have hone := oneS_num xs K Z hK hZ
  rw [hr, h.len] at hone
  have hn := h.le
  have HL := hidden h.len
  have HXX := hidden (h.alloc (.cells #[.int .i64 0, .int .i64 0, .int .i64 0, .int .i64 0, .int .u64 0, .int .u64 0, .int .i64 0, .int .u64 0, .int .u64 0] 48))
  have HRZ := hidden (SlIn.new w zeroS 48)
  have HBZ := hidden ((Below.refl w.heap.size w).alloc (Nat.le_refl _) (.cells #[.int .i64 0, .int .i64 0, .int .i64 0, .int .i64 0, .int .u64 0, .int .u64 0, .int .i64 0, .int .u64 0, .int .u64 0] 48))
  have HN01 := hidden (fun w h => snum_any p n c xs w h 0 1 (by omega) (by omega) K hK)
  have HN22 := hidden (fun w h => snum_any p n c xs w h 2 2 (by omega) (by omega) Z hZ)
  clear hK hZ hr
  have hcs : (K = 7 ∧ Z = 16 ∧ 16 ≤ n ∧ r = some (⟨nAt xs 1 1, nAt xs 4 2, nAt xs 6 2, ⟨4, 0, nAt xs 8 4⟩, ⟨4, 0, nAt xs 12 4⟩⟩, 16)) ∨
      (K = 8 ∧ Z = 40 ∧ 40 ≤ n ∧ r = some (⟨nAt xs 1 1, nAt xs 4 2, nAt xs 6 2, ⟨6, nAt xs 8 8, nAt xs 16 8⟩, ⟨6, nAt xs 24 8, nAt xs 32 8⟩⟩, 40)) ∨
      (K = 7 ∧ Z = 16 ∧ n < 16 ∧ r = none) ∨ (K = 8 ∧ Z = 40 ∧ n < 40 ∧ r = none) ∨ (K = 7 ∧ (Z == 16) = false ∧ r = none) ∨ (K = 8 ∧ (Z == 40) = false ∧ r = none) ∨ ((K == 7) = false ∧ (K == 8) = false ∧ r = none) := by
    by_cases h7 : K = 7
    · by_cases h16 : Z = 16
      · by_cases hn16 : 16 ≤ n
        · rw [if_pos ⟨h7, h16, hn16⟩] at hone
          exact Or.inl ⟨h7, h16, hn16, hone⟩
        · rw [if_neg (by omega), if_neg (by omega)] at hone
          exact Or.inr (Or.inr (Or.inl ⟨h7, h16, by omega, hone⟩))
      · rw [if_neg (by omega), if_neg (by omega)] at hone
        exact Or.inr (Or.inr (Or.inr (Or.inr (Or.inl ⟨h7, by simpa using h16, hone⟩))))
    · by_cases h8 : K = 8
      · by_cases h40 : Z = 40
        · by_cases hn40 : 40 ≤ n
          · rw [if_neg (by omega), if_pos ⟨h8, h40, hn40⟩] at hone
            exact Or.inr (Or.inl ⟨h8, h40, hn40, hone⟩)
          · rw [if_neg (by omega), if_neg (by omega)] at hone
            exact Or.inr (Or.inr (Or.inr (Or.inl ⟨h8, h40, by omega, hone⟩)))
        · rw [if_neg (by omega), if_neg (by omega)] at hone
          exact Or.inr (Or.inr (Or.inr (Or.inr (Or.inr (Or.inl ⟨h8, by simpa using h40, hone⟩)))))
      · rw [if_neg (by omega), if_neg (by omega)] at hone
        exact Or.inr (Or.inr (Or.inr (Or.inr (Or.inr (Or.inr ⟨by simpa using h7, by simpa using h8, hone⟩)))))
  clear hone
  rcases hcs with ⟨rfl, rfl, hN, hO⟩ | ⟨rfl, rfl, hN, hO⟩ | ⟨rfl, rfl, hN, hO⟩ | ⟨rfl, rfl, hN, hO⟩ | ⟨rfl, hN, hO⟩ | ⟨rfl, hN, hO⟩ | ⟨hN, hN2, hO⟩
  all_goals have HO := hidden hO
  all_goals clear hO
  · have HM0 : Hid (SlIn ((w.alloc (.cells #[.int .i64 0, .int .i64 0, .int .i64 0, .int .i64 0, .int .u64 0, .int .u64 0, .int .i64 0, .int .u64 0, .int .u64 0] 48)).alloc (.cells #[.int .i64 (nAt xs 1 1), .int .i64 (nAt xs 4 2), .int .i64 (nAt xs 6 2), .int .i64 0, .int .u64 0, .int .u64 0, .int .i64 0, .int .u64 0, .int .u64 0] 48)) (w.heap.size + 1) ⟨nAt xs 1 1, nAt xs 4 2, nAt xs 6 2, zeroA, zeroA⟩) := hidden (by
      have := SlIn.new (w.alloc (.cells #[.int .i64 0, .int .i64 0, .int .i64 0, .int .i64 0, .int .u64 0, .int .u64 0, .int .i64 0, .int .u64 0, .int .u64 0] 48)) ⟨nAt xs 1 1, nAt xs 4 2, nAt xs 6 2, zeroA, zeroA⟩ 48
      simpa [zeroA] using this)
    have HR0 := hidden ((SlIn.new w zeroS 48).alloc (.cells #[.int .i64 (nAt xs 1 1), .int .i64 (nAt xs 4 2), .int .i64 (nAt xs 6 2), .int .i64 0, .int .u64 0, .int .u64 0, .int .i64 0, .int .u64 0, .int .u64 0] 48))
    have HB0 := hidden (below_two (w := w) (.cells #[.int .i64 0, .int .i64 0, .int .i64 0, .int .i64 0, .int .u64 0, .int .u64 0, .int .i64 0, .int .u64 0, .int .u64 0] 48) (.cells #[.int .i64 (nAt xs 1 1), .int .i64 (nAt xs 4 2), .int .i64 (nAt xs 6 2), .int .i64 0, .int .u64 0, .int .u64 0, .int .i64 0, .int .u64 0, .int .u64 0] 48))
    have HS1X := hidden (HXX.out.alloc (.cells #[.int .i64 (nAt xs 1 1), .int .i64 (nAt xs 4 2), .int .i64 (nAt xs 6 2), .int .i64 0, .int .u64 0, .int .u64 0, .int .i64 0, .int .u64 0, .int .u64 0] 48))
    have HN11 := hidden (fun w h => snum_any p n c xs w h 1 1 (by omega) (by omega) (nAt xs 1 1) (by have := numR_in xs 1 1 (by omega) (by omega) (by rw [HL.out]; omega); rw [show ((1 : Nat) : Int) = 1 from rfl] at this; rw [this]))
    have HN42 := hidden (fun w h => snum_any p n c xs w h 4 2 (by omega) (by omega) (nAt xs 4 2) (by have := numR_in xs 4 2 (by omega) (by omega) (by rw [HL.out]; omega); rw [show ((4 : Nat) : Int) = 4 from rfl, show ((2 : Nat) : Int) = 2 from rfl] at this; rw [this]))
    have HN62 := hidden (fun w h => snum_any p n c xs w h 6 2 (by omega) (by omega) (nAt xs 6 2) (by have := numR_in xs 6 2 (by omega) (by omega) (by rw [HL.out]; omega); rw [show ((6 : Nat) : Int) = 6 from rfl, show ((2 : Nat) : Int) = 2 from rfl] at this; rw [this]))
    clear h
    go_enter Try.func72, Try.ntmps72
    go_wp2_with (first
      | (go_at_call 95; (with_reducible refine (HN01.out _ HXX.out).mono ?_); rintro e w' ⟨rfl, rfl⟩)
      | (go_at_call 95; (with_reducible refine (HN22.out _ HXX.out).mono ?_); rintro e w' ⟨rfl, rfl⟩)
      | (go_at_call 95; (with_reducible refine (HN11.out _ HXX.out).mono ?_); rintro e w' ⟨rfl, rfl⟩)
      | (go_at_call 95; (with_reducible refine (HN42.out _ HXX.out).mono ?_); rintro e w' ⟨rfl, rfl⟩)
      | (go_at_call 95; (with_reducible refine (HN62.out _ HXX.out).mono ?_); rintro e w' ⟨rfl, rfl⟩)
      | (go_at_call 96; (with_reducible refine (read4_any p n c xs _ HS1X.out 8 8 rfl (by omega)).mono ?_); rintro e w1 ⟨rfl, hb⟩; have HM1 := hidden (HM0.out.below hb); have HR1 := hidden (HR0.out.below hb); have HX1 := hidden (HS1X.out.below hb); have HB1 := hidden (HB0.out.trans (hb.mono HB0.out.size)); clear hb)
      | (go_at_call 96; (with_reducible refine (read4_any p n c xs _ HX1.out 12 12 rfl (by omega)).mono ?_); rintro e w2 ⟨rfl, hb⟩; have HM2 := hidden (HM1.out.below hb); have HR2 := hidden (HR1.out.below hb); have HB2 := hidden (HB1.out.trans (hb.mono HB1.out.size)); obtain ⟨m0, m1, m2, m3, m4, m5, m6, m7, m8, mf⟩ := HM2.out; obtain ⟨r0, r1, r2, r3, r4, r5, r6, r7, r8, rf⟩ := HR2.out; clear hb)
      | fail)
    obtain ⟨z1, z2⟩ := put_lohi (B := w.heap.size) (m := ⟨nAt xs 1 1, nAt xs 4 2, nAt xs 6 2, zeroA, zeroA⟩) HR2.out (show w.heap.size ≠ w.heap.size + 1 by omega) (by omega) (Nat.le_refl _) ⟨4, 0, nAt xs 8 4⟩ ⟨4, 0, nAt xs 12 4⟩
    refine ret_sl3 (g := w.heap.size) (s := ⟨nAt xs 1 1, nAt xs 4 2, nAt xs 6 2, ⟨4, 0, nAt xs 8 4⟩, ⟨4, 0, nAt xs 12 4⟩⟩) (u := .int .i64 16) (v := .bool true) rfl rfl rfl rfl rfl z1 ?_
    refine ⟨z2 w rfl HB2.out, ?_⟩
    rw [HO.out]
    rfl
  · have HM0 : Hid (SlIn ((w.alloc (.cells #[.int .i64 0, .int .i64 0, .int .i64 0, .int .i64 0, .int .u64 0, .int .u64 0, .int .i64 0, .int .u64 0, .int .u64 0] 48)).alloc (.cells #[.int .i64 (nAt xs 1 1), .int .i64 (nAt xs 4 2), .int .i64 (nAt xs 6 2), .int .i64 0, .int .u64 0, .int .u64 0, .int .i64 0, .int .u64 0, .int .u64 0] 48)) (w.heap.size + 1) ⟨nAt xs 1 1, nAt xs 4 2, nAt xs 6 2, zeroA, zeroA⟩) := hidden (by
      have := SlIn.new (w.alloc (.cells #[.int .i64 0, .int .i64 0, .int .i64 0, .int .i64 0, .int .u64 0, .int .u64 0, .int .i64 0, .int .u64 0, .int .u64 0] 48)) ⟨nAt xs 1 1, nAt xs 4 2, nAt xs 6 2, zeroA, zeroA⟩ 48
      simpa [zeroA] using this)
    have HR0 := hidden ((SlIn.new w zeroS 48).alloc (.cells #[.int .i64 (nAt xs 1 1), .int .i64 (nAt xs 4 2), .int .i64 (nAt xs 6 2), .int .i64 0, .int .u64 0, .int .u64 0, .int .i64 0, .int .u64 0, .int .u64 0] 48))
    have HB0 := hidden (below_two (w := w) (.cells #[.int .i64 0, .int .i64 0, .int .i64 0, .int .i64 0, .int .u64 0, .int .u64 0, .int .i64 0, .int .u64 0, .int .u64 0] 48) (.cells #[.int .i64 (nAt xs 1 1), .int .i64 (nAt xs 4 2), .int .i64 (nAt xs 6 2), .int .i64 0, .int .u64 0, .int .u64 0, .int .i64 0, .int .u64 0, .int .u64 0] 48))
    have HS1X := hidden (HXX.out.alloc (.cells #[.int .i64 (nAt xs 1 1), .int .i64 (nAt xs 4 2), .int .i64 (nAt xs 6 2), .int .i64 0, .int .u64 0, .int .u64 0, .int .i64 0, .int .u64 0, .int .u64 0] 48))
    have HN11 := hidden (fun w h => snum_any p n c xs w h 1 1 (by omega) (by omega) (nAt xs 1 1) (by have := numR_in xs 1 1 (by omega) (by omega) (by rw [HL.out]; omega); rw [show ((1 : Nat) : Int) = 1 from rfl] at this; rw [this]))
    have HN42 := hidden (fun w h => snum_any p n c xs w h 4 2 (by omega) (by omega) (nAt xs 4 2) (by have := numR_in xs 4 2 (by omega) (by omega) (by rw [HL.out]; omega); rw [show ((4 : Nat) : Int) = 4 from rfl, show ((2 : Nat) : Int) = 2 from rfl] at this; rw [this]))
    have HN62 := hidden (fun w h => snum_any p n c xs w h 6 2 (by omega) (by omega) (nAt xs 6 2) (by have := numR_in xs 6 2 (by omega) (by omega) (by rw [HL.out]; omega); rw [show ((6 : Nat) : Int) = 6 from rfl, show ((2 : Nat) : Int) = 2 from rfl] at this; rw [this]))
    clear h
    go_enter Try.func72, Try.ntmps72
    go_wp2_with (first
      | (go_at_call 95; (with_reducible refine (HN01.out _ HXX.out).mono ?_); rintro e w' ⟨rfl, rfl⟩)
      | (go_at_call 95; (with_reducible refine (HN22.out _ HXX.out).mono ?_); rintro e w' ⟨rfl, rfl⟩)
      | (go_at_call 95; (with_reducible refine (HN11.out _ HXX.out).mono ?_); rintro e w' ⟨rfl, rfl⟩)
      | (go_at_call 95; (with_reducible refine (HN42.out _ HXX.out).mono ?_); rintro e w' ⟨rfl, rfl⟩)
      | (go_at_call 95; (with_reducible refine (HN62.out _ HXX.out).mono ?_); rintro e w' ⟨rfl, rfl⟩)
      | (go_at_call 97; (with_reducible refine (read6_any p n c xs _ HS1X.out 8 8 rfl (by omega)).mono ?_); rintro e w1 ⟨rfl, hb⟩; have HM1 := hidden (HM0.out.below hb); have HR1 := hidden (HR0.out.below hb); have HX1 := hidden (HS1X.out.below hb); have HB1 := hidden (HB0.out.trans (hb.mono HB0.out.size)); clear hb)
      | (go_at_call 97; (with_reducible refine (read6_any p n c xs _ HX1.out 24 24 rfl (by omega)).mono ?_); rintro e w2 ⟨rfl, hb⟩; have HM2 := hidden (HM1.out.below hb); have HR2 := hidden (HR1.out.below hb); have HB2 := hidden (HB1.out.trans (hb.mono HB1.out.size)); obtain ⟨m0, m1, m2, m3, m4, m5, m6, m7, m8, mf⟩ := HM2.out; obtain ⟨r0, r1, r2, r3, r4, r5, r6, r7, r8, rf⟩ := HR2.out; clear hb)
      | fail)
    obtain ⟨z1, z2⟩ := put_lohi (B := w.heap.size) (m := ⟨nAt xs 1 1, nAt xs 4 2, nAt xs 6 2, zeroA, zeroA⟩) HR2.out (show w.heap.size ≠ w.heap.size + 1 by omega) (by omega) (Nat.le_refl _) ⟨6, nAt xs 8 8, nAt xs 16 8⟩ ⟨6, nAt xs 24 8, nAt xs 32 8⟩
    refine ret_sl3 (g := w.heap.size) (s := ⟨nAt xs 1 1, nAt xs 4 2, nAt xs 6 2, ⟨6, nAt xs 8 8, nAt xs 16 8⟩, ⟨6, nAt xs 24 8, nAt xs 32 8⟩⟩) (u := .int .i64 40) (v := .bool true) rfl rfl rfl rfl rfl z1 ?_
    refine ⟨z2 w rfl HB2.out, ?_⟩
    rw [HO.out]
    rfl
  all_goals
    obtain ⟨r0, r1, r2, r3, r4, r5, r6, r7, r8, rf⟩ := HRZ.out
    clear h
    go_enter Try.func72, Try.ntmps72
    go_wp2_with (first
      | (go_at_call 95; (with_reducible refine (HN01.out _ HXX.out).mono ?_); rintro e w' ⟨rfl, rfl⟩)
      | (go_at_call 95; (with_reducible refine (HN22.out _ HXX.out).mono ?_); rintro e w' ⟨rfl, rfl⟩)
      | fail)
    refine ret_sl3 (g := w.heap.size) (s := zeroS) (u := .int .i64 0) (v := .bool false) rfl rfl rfl rfl rfl HRZ.out ?_
    refine ⟨HBZ.out, ?_⟩
    rw [HO.out]
end Go.Proofs.Ytignenekomlleaa
