/-
  What package selector's readOne returns, for any bytes.
  What header.Parse returns: the header in any bytes, or the first error.
  Whether a message asks for a cookie and has nothing to agree on (message.asksCookie).
  What the reader of chains returns for the next payload, and how it goes on.
  What Change makes of a list of bytes: other bytes, or the same.
-/
import Derived.Test.YtkniifopfgeopaaGreatJZ7
import Derived.Test.YtkniifopfgeopaaGreatJZ9
import Derived.Test.YtkniifopfgeopaaGreatJZ1
import Derived.Test.YtkniifopfgeopaaGreatJZ29
import Derived.Test.YtkniifopfgeopaaGreatJZ30
import Derived.Test.YtkniifopfgeopaaGreatJZ4
import Derived.Test.YtkniifopfgeopaaGreatJZ3
import Derived.Test.YtkniifopfgeopaaGreatJZ0
import Derived.Laws.Bits64b
import Derived.Deep.RegionWith
import Derived.BigRegion
namespace Go.Proofs.YtkniifopfgeopaaGreat
open Go.RowKit
set_option linter.unusedVariables false

theorem ret_sl3 {fn : Func} {R : Ending → World → Prop} {a : Act} {w : World} {p x y : Nat} {g : Nat} {s : Sl} {u v : Value} (h : fn.results = #[.cell p 116, .tmp x, .tmp y]) (hp : a.tmps.getD p undef = .pointer (some ⟨g, 0, none⟩)) (hu : a.tmps.getD x undef = u) (hv : a.tmps.getD y undef = v) (hd : a.defers = [])
    (hh : SlIn w g s) (hR : R (.returned (.tuple #[(.agg #[.int .i64 s.p, .int .i64 s.a, .int .i64 s.b, .int .i64 s.lo.f, .int .u64 s.lo.h, .int .u64 s.lo.l, .int .i64 s.hi.f, .int .u64 s.hi.h, .int .u64 s.hi.l]), u, v])) w) : bodyPost Tryz.prog fn R .ret a w := by
  refine bodyPost_ret (v := .tuple #[(.agg #[.int .i64 s.p, .int .i64 s.a, .int .i64 s.b, .int .i64 s.lo.f, .int .u64 s.lo.h, .int .u64 s.lo.l, .int .i64 s.hi.f, .int .u64 s.hi.h, .int .u64 s.hi.l]), u, v]) ?_ hd hR
  rw [Array.getD_eq_getD_getElem?] at hp hu hv
  simp [results, h, hp, hu, hv, asAddr, load_sl hh, Result.andThen]
theorem put_lohi {w : World} {B M R : Nat} {m r : Sl} (hr : SlIn w R r) (hne : R ≠ M) (h1 : B ≤ M) (h2 : B ≤ R) (z1 z2 : Ad) : SlIn (((((((((((((((w.setCell ⟨M, 3, none⟩ (.int .i64 z1.f)).setCell ⟨M, 4, none⟩ (.int .u64 z1.h)).setCell ⟨M, 5, none⟩ (.int .u64 z1.l)).setCell ⟨M, 6, none⟩ (.int .i64 z2.f)).setCell ⟨M, 7, none⟩ (.int .u64 z2.h)).setCell ⟨M, 8, none⟩ (.int .u64 z2.l)).setCell ⟨R, 0, none⟩ (.int .i64 m.p)).setCell ⟨R, 1, none⟩ (.int .i64 m.a)).setCell ⟨R, 2, none⟩ (.int .i64 m.b)).setCell ⟨R, 3, none⟩ (.int .i64 z1.f)).setCell ⟨R, 4, none⟩ (.int .u64 z1.h)).setCell ⟨R, 5, none⟩ (.int .u64 z1.l)).setCell ⟨R, 6, none⟩ (.int .i64 z2.f)).setCell ⟨R, 7, none⟩ (.int .u64 z2.h)).setCell ⟨R, 8, none⟩ (.int .u64 z2.l)) R { m with lo := z1, hi := z2 } ∧ (∀ W : World, W.heap.size = B → Below B W w → Below B W (((((((((((((((w.setCell ⟨M, 3, none⟩ (.int .i64 z1.f)).setCell ⟨M, 4, none⟩ (.int .u64 z1.h)).setCell ⟨M, 5, none⟩ (.int .u64 z1.l)).setCell ⟨M, 6, none⟩ (.int .i64 z2.f)).setCell ⟨M, 7, none⟩ (.int .u64 z2.h)).setCell ⟨M, 8, none⟩ (.int .u64 z2.l)).setCell ⟨R, 0, none⟩ (.int .i64 m.p)).setCell ⟨R, 1, none⟩ (.int .i64 m.a)).setCell ⟨R, 2, none⟩ (.int .i64 m.b)).setCell ⟨R, 3, none⟩ (.int .i64 z1.f)).setCell ⟨R, 4, none⟩ (.int .u64 z1.h)).setCell ⟨R, 5, none⟩ (.int .u64 z1.l)).setCell ⟨R, 6, none⟩ (.int .i64 z2.f)).setCell ⟨R, 7, none⟩ (.int .u64 z2.h)).setCell ⟨R, 8, none⟩ (.int .u64 z2.l))) :=
  ⟨((((((hr.set_ne _ _ _ hne).set_ne _ _ _ hne).set_ne _ _ _ hne).set_ne _ _ _ hne).set_ne _ _ _ hne).set_ne _ _ _ hne).setAll { m with lo := z1, hi := z2 }, fun W hW hb => (((((((((((((((hb.setCell (p := ⟨M, 3, none⟩) (by simp <;> omega) _).setCell (p := ⟨M, 4, none⟩) (by simp <;> omega) _).setCell (p := ⟨M, 5, none⟩) (by simp <;> omega) _).setCell (p := ⟨M, 6, none⟩) (by simp <;> omega) _).setCell (p := ⟨M, 7, none⟩) (by simp <;> omega) _).setCell (p := ⟨M, 8, none⟩) (by simp <;> omega) _).setCell (p := ⟨R, 0, none⟩) (by simp <;> omega) _).setCell (p := ⟨R, 1, none⟩) (by simp <;> omega) _).setCell (p := ⟨R, 2, none⟩) (by simp <;> omega) _).setCell (p := ⟨R, 3, none⟩) (by simp <;> omega) _).setCell (p := ⟨R, 4, none⟩) (by simp <;> omega) _).setCell (p := ⟨R, 5, none⟩) (by simp <;> omega) _).setCell (p := ⟨R, 6, none⟩) (by simp <;> omega) _).setCell (p := ⟨R, 7, none⟩) (by simp <;> omega) _).setCell (p := ⟨R, 8, none⟩) (by simp <;> omega) _)⟩
/-- What readOne returns. -/
def ReadS (w : World) (r : Option (Sl × Nat)) (e : Ending) (w' : World) : Prop := Below w.heap.size w w' ∧ match r with
  | none => e = .returned (.tuple #[(.agg #[.int .i64 zeroS.p, .int .i64 zeroS.a, .int .i64 zeroS.b, .int .i64 zeroS.lo.f, .int .u64 zeroS.lo.h, .int .u64 zeroS.lo.l, .int .i64 zeroS.hi.f, .int .u64 zeroS.hi.h, .int .u64 zeroS.hi.l]), .int .i64 0, .bool false])
  | some (s, k) => e = .returned (.tuple #[(.agg #[.int .i64 s.p, .int .i64 s.a, .int .i64 s.b, .int .i64 s.lo.f, .int .u64 s.lo.h, .int .u64 s.lo.l, .int .i64 s.hi.f, .int .u64 s.hi.h, .int .u64 s.hi.l]), .int .i64 k, .bool true])

set_option maxHeartbeats 1600000 in
set_option maxRecDepth 100000 in
theorem readOne_any (p : Option Addr) (n c : Nat) (xs : List Int) (w : World) (h : Byt w p n c xs) (r : Option (Sl × Nat)) (hr : oneS xs = r) :
    Calls Tryz.prog 119 #[.slice p n c] w (ReadS w r) := by
  obtain ⟨K, hK⟩ : ∃ K, (numR xs 0 1).1 = K := ⟨_, rfl⟩
  obtain ⟨Z, hZ⟩ : ∃ Z, (numR xs 2 2).1 = Z := ⟨_, rfl⟩
  have hone := oneS_num xs K Z hK hZ
  rw [hr, h.len] at hone
  have hn := h.le
  have HL := hidden h.len
  have HXX := hidden (h.alloc (.cells #[.int .i64 0, .int .i64 0, .int .i64 0, .int .i64 0, .int .u64 0, .int .u64 0, .int .i64 0, .int .u64 0, .int .u64 0] 116))
  have HRZ := hidden (SlIn.new w zeroS 116)
  have HBZ := hidden ((Below.refl w.heap.size w).alloc (Nat.le_refl _) (.cells #[.int .i64 0, .int .i64 0, .int .i64 0, .int .i64 0, .int .u64 0, .int .u64 0, .int .i64 0, .int .u64 0, .int .u64 0] 116))
  have HN01 := hidden (fun w h => snum_any p n c xs w h 0 1 (by omega) (by omega) K hK)
  have HN22 := hidden (fun w h => snum_any p n c xs w h 2 2 (by omega) (by omega) Z hZ)
  clear hK hZ hr
  have hcs : (K = 7 ∧ Z = 16 ∧ 16 ≤ n ∧ r = some (⟨nAt xs 1 1, nAt xs 4 2, nAt xs 6 2, ⟨4, 0, nAt xs 8 4⟩, ⟨4, 0, nAt xs 12 4⟩⟩, 16)) ∨
      (K = 8 ∧ Z = 40 ∧ 40 ≤ n ∧ r = some (⟨nAt xs 1 1, nAt xs 4 2, nAt xs 6 2, ⟨6, nAt xs 8 8, nAt xs 16 8⟩, ⟨6, nAt xs 24 8, nAt xs 32 8⟩⟩, 40)) ∨
      (K = 7 ∧ Z = 16 ∧ n < 16 ∧ r = none) ∨ (K = 8 ∧ Z = 40 ∧ n < 40 ∧ r = none) ∨ (K = 7 ∧ (Z == 16) = false ∧ r = none) ∨ (K = 8 ∧ (Z == 40) = false ∧ r = none) ∨ ((K == 7) = false ∧ (K == 8) = false ∧ r = none) := by
    by_cases h7 : K = 7
    · by_cases h16 : Z = 16
      · by_cases hn16 : 16 ≤ n
        · rw [if_pos ⟨h7, h16, hn16⟩] at hone
          exact Or.inl ⟨h7, h16, hn16, hone⟩
        · rw [if_neg (by omega), if_neg (by omega)] at hone
          exact Or.inr (Or.inr (Or.inl ⟨h7, h16, by omega, hone⟩))
      · rw [if_neg (by omega), if_neg (by omega)] at hone
        exact Or.inr (Or.inr (Or.inr (Or.inr (Or.inl ⟨h7, by simpa using h16, hone⟩))))
    · by_cases h8 : K = 8
      · by_cases h40 : Z = 40
        · by_cases hn40 : 40 ≤ n
          · rw [if_neg (by omega), if_pos ⟨h8, h40, hn40⟩] at hone
            exact Or.inr (Or.inl ⟨h8, h40, hn40, hone⟩)
          · rw [if_neg (by omega), if_neg (by omega)] at hone
            exact Or.inr (Or.inr (Or.inr (Or.inl ⟨h8, h40, by omega, hone⟩)))
        · rw [if_neg (by omega), if_neg (by omega)] at hone
          exact Or.inr (Or.inr (Or.inr (Or.inr (Or.inr (Or.inl ⟨h8, by simpa using h40, hone⟩)))))
      · rw [if_neg (by omega), if_neg (by omega)] at hone
        exact Or.inr (Or.inr (Or.inr (Or.inr (Or.inr (Or.inr ⟨by simpa using h7, by simpa using h8, hone⟩)))))
  clear hone
  rcases hcs with ⟨rfl, rfl, hN, hO⟩ | ⟨rfl, rfl, hN, hO⟩ | ⟨rfl, rfl, hN, hO⟩ | ⟨rfl, rfl, hN, hO⟩ | ⟨rfl, hN, hO⟩ | ⟨rfl, hN, hO⟩ | ⟨hN, hN2, hO⟩
  all_goals have HO := hidden hO
  all_goals clear hO
  · have HM0 : Hid (SlIn ((w.alloc (.cells #[.int .i64 0, .int .i64 0, .int .i64 0, .int .i64 0, .int .u64 0, .int .u64 0, .int .i64 0, .int .u64 0, .int .u64 0] 116)).alloc (.cells #[.int .i64 (nAt xs 1 1), .int .i64 (nAt xs 4 2), .int .i64 (nAt xs 6 2), .int .i64 0, .int .u64 0, .int .u64 0, .int .i64 0, .int .u64 0, .int .u64 0] 116)) (w.heap.size + 1) ⟨nAt xs 1 1, nAt xs 4 2, nAt xs 6 2, zeroA, zeroA⟩) := hidden (by
      have := SlIn.new (w.alloc (.cells #[.int .i64 0, .int .i64 0, .int .i64 0, .int .i64 0, .int .u64 0, .int .u64 0, .int .i64 0, .int .u64 0, .int .u64 0] 116)) ⟨nAt xs 1 1, nAt xs 4 2, nAt xs 6 2, zeroA, zeroA⟩ 116
      simpa [zeroA] using this)
    have HR0 := hidden ((SlIn.new w zeroS 116).alloc (.cells #[.int .i64 (nAt xs 1 1), .int .i64 (nAt xs 4 2), .int .i64 (nAt xs 6 2), .int .i64 0, .int .u64 0, .int .u64 0, .int .i64 0, .int .u64 0, .int .u64 0] 116))
    have HB0 := hidden (below_two (w := w) (.cells #[.int .i64 0, .int .i64 0, .int .i64 0, .int .i64 0, .int .u64 0, .int .u64 0, .int .i64 0, .int .u64 0, .int .u64 0] 116) (.cells #[.int .i64 (nAt xs 1 1), .int .i64 (nAt xs 4 2), .int .i64 (nAt xs 6 2), .int .i64 0, .int .u64 0, .int .u64 0, .int .i64 0, .int .u64 0, .int .u64 0] 116))
    have HS1X := hidden (HXX.out.alloc (.cells #[.int .i64 (nAt xs 1 1), .int .i64 (nAt xs 4 2), .int .i64 (nAt xs 6 2), .int .i64 0, .int .u64 0, .int .u64 0, .int .i64 0, .int .u64 0, .int .u64 0] 116))
    have HN11 := hidden (fun w h => snum_any p n c xs w h 1 1 (by omega) (by omega) (nAt xs 1 1) (by have := numR_in xs 1 1 (by omega) (by omega) (by rw [HL.out]; omega); rw [show ((1 : Nat) : Int) = 1 from rfl] at this; rw [this]))
    have HN42 := hidden (fun w h => snum_any p n c xs w h 4 2 (by omega) (by omega) (nAt xs 4 2) (by have := numR_in xs 4 2 (by omega) (by omega) (by rw [HL.out]; omega); rw [show ((4 : Nat) : Int) = 4 from rfl, show ((2 : Nat) : Int) = 2 from rfl] at this; rw [this]))
    have HN62 := hidden (fun w h => snum_any p n c xs w h 6 2 (by omega) (by omega) (nAt xs 6 2) (by have := numR_in xs 6 2 (by omega) (by omega) (by rw [HL.out]; omega); rw [show ((6 : Nat) : Int) = 6 from rfl, show ((2 : Nat) : Int) = 2 from rfl] at this; rw [this]))
    clear h
    go_enter Tryz.func119, Tryz.ntmps119
    go_wp2_with (first
      | (go_at_call 125; (with_reducible refine (HN01.out _ HXX.out).mono ?_); rintro e w' ⟨rfl, rfl⟩)
      | (go_at_call 125; (with_reducible refine (HN22.out _ HXX.out).mono ?_); rintro e w' ⟨rfl, rfl⟩)
      | (go_at_call 125; (with_reducible refine (HN11.out _ HXX.out).mono ?_); rintro e w' ⟨rfl, rfl⟩)
      | (go_at_call 125; (with_reducible refine (HN42.out _ HXX.out).mono ?_); rintro e w' ⟨rfl, rfl⟩)
      | (go_at_call 125; (with_reducible refine (HN62.out _ HXX.out).mono ?_); rintro e w' ⟨rfl, rfl⟩)
      | (go_at_call 126; (with_reducible refine (read4_any p n c xs _ HS1X.out 8 8 rfl (by omega)).mono ?_); rintro e w1 ⟨rfl, hb⟩; have HM1 := hidden (HM0.out.below hb); have HR1 := hidden (HR0.out.below hb); have HX1 := hidden (HS1X.out.below hb); have HB1 := hidden (HB0.out.trans (hb.mono HB0.out.size)); clear hb)
      | (go_at_call 126; (with_reducible refine (read4_any p n c xs _ HX1.out 12 12 rfl (by omega)).mono ?_); rintro e w2 ⟨rfl, hb⟩; have HM2 := hidden (HM1.out.below hb); have HR2 := hidden (HR1.out.below hb); have HB2 := hidden (HB1.out.trans (hb.mono HB1.out.size)); obtain ⟨m0, m1, m2, m3, m4, m5, m6, m7, m8, mf⟩ := HM2.out; obtain ⟨r0, r1, r2, r3, r4, r5, r6, r7, r8, rf⟩ := HR2.out; clear hb)
      | fail)
    obtain ⟨z1, z2⟩ := put_lohi (B := w.heap.size) (m := ⟨nAt xs 1 1, nAt xs 4 2, nAt xs 6 2, zeroA, zeroA⟩) HR2.out (show w.heap.size ≠ w.heap.size + 1 by omega) (by omega) (Nat.le_refl _) ⟨4, 0, nAt xs 8 4⟩ ⟨4, 0, nAt xs 12 4⟩
    refine ret_sl3 (g := w.heap.size) (s := ⟨nAt xs 1 1, nAt xs 4 2, nAt xs 6 2, ⟨4, 0, nAt xs 8 4⟩, ⟨4, 0, nAt xs 12 4⟩⟩) (u := .int .i64 16) (v := .bool true) rfl rfl rfl rfl rfl z1 ?_
    refine ⟨z2 w rfl HB2.out, ?_⟩
    rw [HO.out]
    rfl
  · have HM0 : Hid (SlIn ((w.alloc (.cells #[.int .i64 0, .int .i64 0, .int .i64 0, .int .i64 0, .int .u64 0, .int .u64 0, .int .i64 0, .int .u64 0, .int .u64 0] 116)).alloc (.cells #[.int .i64 (nAt xs 1 1), .int .i64 (nAt xs 4 2), .int .i64 (nAt xs 6 2), .int .i64 0, .int .u64 0, .int .u64 0, .int .i64 0, .int .u64 0, .int .u64 0] 116)) (w.heap.size + 1) ⟨nAt xs 1 1, nAt xs 4 2, nAt xs 6 2, zeroA, zeroA⟩) := hidden (by
      have := SlIn.new (w.alloc (.cells #[.int .i64 0, .int .i64 0, .int .i64 0, .int .i64 0, .int .u64 0, .int .u64 0, .int .i64 0, .int .u64 0, .int .u64 0] 116)) ⟨nAt xs 1 1, nAt xs 4 2, nAt xs 6 2, zeroA, zeroA⟩ 116
      simpa [zeroA] using this)
    have HR0 := hidden ((SlIn.new w zeroS 116).alloc (.cells #[.int .i64 (nAt xs 1 1), .int .i64 (nAt xs 4 2), .int .i64 (nAt xs 6 2), .int .i64 0, .int .u64 0, .int .u64 0, .int .i64 0, .int .u64 0, .int .u64 0] 116))
    have HB0 := hidden (below_two (w := w) (.cells #[.int .i64 0, .int .i64 0, .int .i64 0, .int .i64 0, .int .u64 0, .int .u64 0, .int .i64 0, .int .u64 0, .int .u64 0] 116) (.cells #[.int .i64 (nAt xs 1 1), .int .i64 (nAt xs 4 2), .int .i64 (nAt xs 6 2), .int .i64 0, .int .u64 0, .int .u64 0, .int .i64 0, .int .u64 0, .int .u64 0] 116))
    have HS1X := hidden (HXX.out.alloc (.cells #[.int .i64 (nAt xs 1 1), .int .i64 (nAt xs 4 2), .int .i64 (nAt xs 6 2), .int .i64 0, .int .u64 0, .int .u64 0, .int .i64 0, .int .u64 0, .int .u64 0] 116))
    have HN11 := hidden (fun w h => snum_any p n c xs w h 1 1 (by omega) (by omega) (nAt xs 1 1) (by have := numR_in xs 1 1 (by omega) (by omega) (by rw [HL.out]; omega); rw [show ((1 : Nat) : Int) = 1 from rfl] at this; rw [this]))
    have HN42 := hidden (fun w h => snum_any p n c xs w h 4 2 (by omega) (by omega) (nAt xs 4 2) (by have := numR_in xs 4 2 (by omega) (by omega) (by rw [HL.out]; omega); rw [show ((4 : Nat) : Int) = 4 from rfl, show ((2 : Nat) : Int) = 2 from rfl] at this; rw [this]))
    have HN62 := hidden (fun w h => snum_any p n c xs w h 6 2 (by omega) (by omega) (nAt xs 6 2) (by have := numR_in xs 6 2 (by omega) (by omega) (by rw [HL.out]; omega); rw [show ((6 : Nat) : Int) = 6 from rfl, show ((2 : Nat) : Int) = 2 from rfl] at this; rw [this]))
    clear h
    go_enter Tryz.func119, Tryz.ntmps119
    go_wp2_with (first
      | (go_at_call 125; (with_reducible refine (HN01.out _ HXX.out).mono ?_); rintro e w' ⟨rfl, rfl⟩)
      | (go_at_call 125; (with_reducible refine (HN22.out _ HXX.out).mono ?_); rintro e w' ⟨rfl, rfl⟩)
      | (go_at_call 125; (with_reducible refine (HN11.out _ HXX.out).mono ?_); rintro e w' ⟨rfl, rfl⟩)
      | (go_at_call 125; (with_reducible refine (HN42.out _ HXX.out).mono ?_); rintro e w' ⟨rfl, rfl⟩)
      | (go_at_call 125; (with_reducible refine (HN62.out _ HXX.out).mono ?_); rintro e w' ⟨rfl, rfl⟩)
      | (go_at_call 127; (with_reducible refine (read6_any p n c xs _ HS1X.out 8 8 rfl (by omega)).mono ?_); rintro e w1 ⟨rfl, hb⟩; have HM1 := hidden (HM0.out.below hb); have HR1 := hidden (HR0.out.below hb); have HX1 := hidden (HS1X.out.below hb); have HB1 := hidden (HB0.out.trans (hb.mono HB0.out.size)); clear hb)
      | (go_at_call 127; (with_reducible refine (read6_any p n c xs _ HX1.out 24 24 rfl (by omega)).mono ?_); rintro e w2 ⟨rfl, hb⟩; have HM2 := hidden (HM1.out.below hb); have HR2 := hidden (HR1.out.below hb); have HB2 := hidden (HB1.out.trans (hb.mono HB1.out.size)); obtain ⟨m0, m1, m2, m3, m4, m5, m6, m7, m8, mf⟩ := HM2.out; obtain ⟨r0, r1, r2, r3, r4, r5, r6, r7, r8, rf⟩ := HR2.out; clear hb)
      | fail)
    obtain ⟨z1, z2⟩ := put_lohi (B := w.heap.size) (m := ⟨nAt xs 1 1, nAt xs 4 2, nAt xs 6 2, zeroA, zeroA⟩) HR2.out (show w.heap.size ≠ w.heap.size + 1 by omega) (by omega) (Nat.le_refl _) ⟨6, nAt xs 8 8, nAt xs 16 8⟩ ⟨6, nAt xs 24 8, nAt xs 32 8⟩
    refine ret_sl3 (g := w.heap.size) (s := ⟨nAt xs 1 1, nAt xs 4 2, nAt xs 6 2, ⟨6, nAt xs 8 8, nAt xs 16 8⟩, ⟨6, nAt xs 24 8, nAt xs 32 8⟩⟩) (u := .int .i64 40) (v := .bool true) rfl rfl rfl rfl rfl z1 ?_
    refine ⟨z2 w rfl HB2.out, ?_⟩
    rw [HO.out]
    rfl
  all_goals
    obtain ⟨r0, r1, r2, r3, r4, r5, r6, r7, r8, rf⟩ := HRZ.out
    clear h
    go_enter Tryz.func119, Tryz.ntmps119
    go_wp2_with (first
      | (go_at_call 125; (with_reducible refine (HN01.out _ HXX.out).mono ?_); rintro e w' ⟨rfl, rfl⟩)
      | (go_at_call 125; (with_reducible refine (HN22.out _ HXX.out).mono ?_); rintro e w' ⟨rfl, rfl⟩)
      | fail)
    refine ret_sl3 (g := w.heap.size) (s := zeroS) (u := .int .i64 0) (v := .bool false) rfl rfl rfl rfl rfl HRZ.out ?_
    refine ⟨HBZ.out, ?_⟩
    rw [HO.out]
end Go.Proofs.YtkniifopfgeopaaGreat

namespace Go.Proofs.YtkniifopfgeopaaGreat
open Go.RowKit
set_option linter.unusedVariables false

def Hdr.zero : Hdr := ⟨0, 0, 0, 0, 0, 0⟩
/-- What is read, by the numbers that stand there. -/
def parseV (v1 v2 v3 v4 v5 v6 v7 v8 : Int) (n : Nat) : Hdr × Int :=
  if v4 / 16 ≠ 2 then (Hdr.zero, 3) else if v8 ≠ n then (Hdr.zero, 2)
  else if checkR v1 v2 v3 v5 (bits .and .i64 v6 56) v7 ≠ 0 then (Hdr.zero, checkR v1 v2 v3 v5 (bits .and .i64 v6 56) v7)
  else (⟨v1, v2, v3, v5, bits .and .i64 v6 56, v7⟩, 0)
/-- The number of d bytes from a on. -/
def numAt (xs : List Int) (a d : Nat) : Int := val ((xs.drop a).take d)
/-- What is read, or the first error. -/
def parseR (xs : List Int) : Hdr × Int :=
  if xs.length < 28 then (Hdr.zero, 1) else parseV (numAt xs 0 8) (numAt xs 8 8) (numAt xs 16 1) (numAt xs 17 1) (numAt xs 18 1) (numAt xs 19 1) (numAt xs 20 4) (numAt xs 24 4) xs.length
/-- The result of Parse. -/
def Parsed (w : World) (h : Hdr × Int) (e : Ending) (w' : World) : Prop := e = .returned (.tuple #[.agg #[.int .u64 h.1.i, .int .u64 h.1.r, .int .i64 h.1.n, .int .i64 h.1.x, .int .i64 h.1.f, .int .u32 h.1.m], .int .i64 h.2]) ∧ Below w.heap.size w w'

theorem field_at (p : Option Addr) (n c : Nat) (xs : List Int) (w : World) (k a d N : Nat) (v : Int) (hv : numAt xs a d = v) (hc : Cur w k p n c a 0) (h : Byt w p n c xs) (h1 : 1 ≤ d) (h8 : d ≤ 8) (hN : a + d = N) (hin : N ≤ n) :
    Calls Tryz.prog 36 #[.pointer (some ⟨k, 0, none⟩), .int .i64 d] w fun e w' => e = .returned (.int .u64 v) ∧ Cur w' k p n c (N : Nat) 0 ∧ w.grownBy w' (some k) := by
  subst hN
  subst hv
  exact field_yes p n c xs w k a d hc h h1 h8 hin

/-- The memory of the call: the result, the cursor, the header that is read. -/
structure Three (w0 w : World) (g : Nat) (i r n x f m : Int) : Prop where
  bel : Below w0.heap.size w0 w
  res : HdrIn w g 0 0 0 0 0 0 0
  hdr : HdrIn w (g + 2) 0 i r n x f m
  g0 : g = w0.heap.size

theorem HdrIn.drew {w : World} {g o : Nat} {i r n x f m : Int} (h : HdrIn w g o i r n x f m) : HdrIn w.drew g o i r n x f m := h.below ((Below.refl _ _).drew)
theorem stored_below {w0 w : World} {g : Nat} {i r n x f m : Int} (h : Below w0.heap.size w0 w) (hg : w0.heap.size ≤ g) :
    Below w0.heap.size w0 ((((((w.setCell ⟨g, 0, none⟩ (.int .u64 i)).setCell ⟨g, 1, none⟩ (.int .u64 r)).setCell ⟨g, 2, none⟩ (.int .i64 n)).setCell ⟨g, 3, none⟩ (.int .i64 x)).setCell ⟨g, 4, none⟩ (.int .i64 f)).setCell ⟨g, 5, none⟩ (.int .u32 m)) :=
  (((((h.setCell hg _).setCell hg _).setCell hg _).setCell hg _).setCell hg _).setCell hg _

set_option maxHeartbeats 1600000 in
theorem parse_core (p : Option Addr) (n c : Nat) (xs : List Int) (w : World) (h : Byt w p n c xs) (hn : 28 ≤ n) (v1 v2 v3 v4 v5 v6 v7 v8 : Int)
    (e1 : numAt xs 0 8 = v1) (e2 : numAt xs 8 8 = v2) (e3 : numAt xs 16 1 = v3) (e4 : numAt xs 17 1 = v4) (e5 : numAt xs 18 1 = v5) (e6 : numAt xs 19 1 = v6) (e7 : numAt xs 20 4 = v7) (e8 : numAt xs 24 4 = v8)
    (b1 : 0 ≤ v1 ∧ v1 ≤ 18446744073709551615) (b2 : 0 ≤ v2 ∧ v2 ≤ 18446744073709551615) (b3 : 0 ≤ v3 ∧ v3 ≤ 255) (b4 : 0 ≤ v4 ∧ v4 ≤ 255) (b5 : 0 ≤ v5 ∧ v5 ≤ 255) (b6 : 0 ≤ v6 ∧ v6 ≤ 255) (b7 : 0 ≤ v7 ∧ v7 ≤ 4294967295) (b8 : 0 ≤ v8 ∧ v8 ≤ 4294967295) :
    Calls Tryz.prog 20 #[.slice p n c] w (Parsed w (parseV v1 v2 v3 v4 v5 v6 v7 v8 n)) := by
  have hle := h.le
  have HY := hidden h
  have E1 := hidden e1
  have E2 := hidden e2
  have E3 := hidden e3
  have E4 := hidden e4
  have E5 := hidden e5
  have E6 := hidden e6
  have E7 := hidden e7
  have E8 := hidden e8
  clear h e1 e2 e3 e4 e5 e6 e7 e8
  obtain ⟨g, hg0⟩ : ∃ g, g = w.heap.size := ⟨_, rfl⟩
  have HW := hidden (show ∀ w3, w3 = ((w.alloc (.cells #[.int .u64 0, .int .u64 0, .int .i64 0, .int .i64 0, .int .i64 0, .int .u32 0] 36)).alloc (.cells #[.slice p n c, .int .i64 0, .int .i64 0] 93)).alloc (.cells #[.int .u64 0, .int .u64 0, .int .i64 0, .int .i64 0, .int .i64 0, .int .u32 0] 36) →
      Three w w3 w.heap.size 0 0 0 0 0 0 ∧ Cur w3 (w.heap.size + 1) p n c 0 0 by
    rintro w3 rfl
    have hs1 : (w.alloc (.cells #[.int .u64 0, .int .u64 0, .int .i64 0, .int .i64 0, .int .i64 0, .int .u32 0] 36)).heap.size = w.heap.size + 1 := by simp
    have hb := (((Below.refl w.heap.size w).alloc (Nat.le_refl _) (.cells #[.int .u64 0, .int .u64 0, .int .i64 0, .int .i64 0, .int .i64 0, .int .u32 0] 36)).alloc (by simp) (.cells #[.slice p n c, .int .i64 0, .int .i64 0] 93)).alloc (by simp; omega) (.cells #[.int .u64 0, .int .u64 0, .int .i64 0, .int .i64 0, .int .i64 0, .int .u32 0] 36)
    refine ⟨⟨hb, ((HdrIn.new w 0 0 0 0 0 0 36).alloc _).alloc _, ?_, rfl⟩, ?_⟩
    · have := HdrIn.new ((w.alloc (.cells #[.int .u64 0, .int .u64 0, .int .i64 0, .int .i64 0, .int .i64 0, .int .u32 0] 36)).alloc (.cells #[.slice p n c, .int .i64 0, .int .i64 0] 93)) 0 0 0 0 0 0 36
      simpa using this
    · refine Cur.alloc ?_ _
      exact ⟨by go_simp, by go_simp, by go_simp, fun j => by go_simp⟩)
  go_enter Tryz.func20, Tryz.ntmps20

  have H0 := (HW.out _ rfl).1
  have HC0 := hidden (HW.out _ rfl).2
  have HB0 := hidden H0.bel
  have HR0 := hidden H0.res
  have HH0 := hidden H0.hdr
  have hs0 := H0.hdr.lt
  have HS0 := hidden hs0
  clear H0 HW hs0
  go_wp2_with (go_at_call 36; (refine (field_at p n c xs _ (w.heap.size + 1) 0 8 8 v1 E1.out HC0.out (HY.out.below HB0.out) (by omega) (by omega) rfl (by omega)).mono ?_))
  rintro e w1 ⟨rfl, hc, hg⟩
  have hb := HB0.out.grown hg HB0.out.size (fun k hk => by simp at hk; omega)
  have hr := HR0.out.grown hg (by simp)
  have hh := HH0.out.grown hg (by simp)
  clear hg HC0 HB0 HR0 HH0
  have HB1 := hidden (hb.setCell (p := ⟨w.heap.size + 2, 0, none⟩) (by simp) (.int .u64 v1))
  have HR1 := hidden (hr.set_ne (w.heap.size + 2) 0 (.int .u64 v1) (by omega))
  have HC1 := hidden (hc.set_ne (w.heap.size + 2) 0 (.int .u64 v1) (by omega))
  have HH1 := hidden (hh.set0 v1)
  (try clear k0 k1 k2 k3 k4 k5 kf)
  obtain ⟨k0, k1, k2, k3, k4, k5, kf⟩ := hh
  clear hb hr hc
  go_wp2_with (go_at_call 36; (refine (field_at p n c xs _ (w.heap.size + 1) 8 8 16 v2 E2.out HC1.out (HY.out.below HB1.out) (by omega) (by omega) rfl (by omega)).mono ?_))
  rintro e w2 ⟨rfl, hc, hg⟩
  have hb := HB1.out.grown hg HB1.out.size (fun k hk => by simp at hk; omega)
  have hr := HR1.out.grown hg (by simp)
  have hh := HH1.out.grown hg (by simp)
  clear hg HC1 HB1 HR1 HH1
  have HB2 := hidden (hb.setCell (p := ⟨w.heap.size + 2, 1, none⟩) (by simp) (.int .u64 v2))
  have HR2 := hidden (hr.set_ne (w.heap.size + 2) 1 (.int .u64 v2) (by omega))
  have HC2 := hidden (hc.set_ne (w.heap.size + 2) 1 (.int .u64 v2) (by omega))
  have HH2 := hidden (hh.set1 v2)
  (try clear k0 k1 k2 k3 k4 k5 kf)
  obtain ⟨k0, k1, k2, k3, k4, k5, kf⟩ := hh
  clear hb hr hc
  go_wp2_with (go_at_call 36; (refine (field_at p n c xs _ (w.heap.size + 1) 16 1 17 v3 E3.out HC2.out (HY.out.below HB2.out) (by omega) (by omega) rfl (by omega)).mono ?_))
  rintro e w3 ⟨rfl, hc, hg⟩
  have hb := HB2.out.grown hg HB2.out.size (fun k hk => by simp at hk; omega)
  have hr := HR2.out.grown hg (by simp)
  have hh := HH2.out.grown hg (by simp)
  clear hg HC2 HB2 HR2 HH2
  have HB3 := hidden (hb.setCell (p := ⟨w.heap.size + 2, 2, none⟩) (by simp) (.int .i64 v3))
  have HR3 := hidden (hr.set_ne (w.heap.size + 2) 2 (.int .i64 v3) (by omega))
  have HC3 := hidden (hc.set_ne (w.heap.size + 2) 2 (.int .i64 v3) (by omega))
  have HH3 := hidden (hh.set2 v3)
  (try clear k0 k1 k2 k3 k4 k5 kf)
  obtain ⟨k0, k1, k2, k3, k4, k5, kf⟩ := hh
  clear hb hr hc
  go_wp2_with (go_at_call 36; (refine (field_at p n c xs _ (w.heap.size + 1) 17 1 18 v4 E4.out HC3.out (HY.out.below HB3.out) (by omega) (by omega) rfl (by omega)).mono ?_))
  rintro e w4 ⟨rfl, hc, hg⟩
  have hb := HB3.out.grown hg HB3.out.size (fun k hk => by simp at hk; omega)
  have hr := HR3.out.grown hg (by simp)
  have hh := HH3.out.grown hg (by simp)
  clear hg HC3 HB3 HR3 HH3
  have HB4 := hidden hb
  have HR4 := hidden hr
  have HC4 := hidden hc
  have HH4 := hidden hh
  clear hb hr hc hh
  go_wp2_with (go_at_call 36; (refine (field_at p n c xs _ (w.heap.size + 1) 18 1 19 v5 E5.out HC4.out (HY.out.below HB4.out) (by omega) (by omega) rfl (by omega)).mono ?_))
  rintro e w5 ⟨rfl, hc, hg⟩
  have hb := HB4.out.grown hg HB4.out.size (fun k hk => by simp at hk; omega)
  have hr := HR4.out.grown hg (by simp)
  have hh := HH4.out.grown hg (by simp)
  clear hg HC4 HB4 HR4 HH4
  have HB5 := hidden (hb.setCell (p := ⟨w.heap.size + 2, 3, none⟩) (by simp) (.int .i64 v5))
  have HR5 := hidden (hr.set_ne (w.heap.size + 2) 3 (.int .i64 v5) (by omega))
  have HC5 := hidden (hc.set_ne (w.heap.size + 2) 3 (.int .i64 v5) (by omega))
  have HH5 := hidden (hh.set3 v5)
  (try clear k0 k1 k2 k3 k4 k5 kf)
  obtain ⟨k0, k1, k2, k3, k4, k5, kf⟩ := hh
  clear hb hr hc
  go_wp2_with (go_at_call 36; (refine (field_at p n c xs _ (w.heap.size + 1) 19 1 20 v6 E6.out HC5.out (HY.out.below HB5.out) (by omega) (by omega) rfl (by omega)).mono ?_))
  rintro e w6 ⟨rfl, hc, hg⟩
  have hb := HB5.out.grown hg HB5.out.size (fun k hk => by simp at hk; omega)
  have hr := HR5.out.grown hg (by simp)
  have hh := HH5.out.grown hg (by simp)
  clear hg HC5 HB5 HR5 HH5
  have HB6 := hidden (hb.setCell (p := ⟨w.heap.size + 2, 4, none⟩) (by simp) (.int .i64 (bits .and .i64 v6 56)))
  have HR6 := hidden (hr.set_ne (w.heap.size + 2) 4 (.int .i64 (bits .and .i64 v6 56)) (by omega))
  have HC6 := hidden (hc.set_ne (w.heap.size + 2) 4 (.int .i64 (bits .and .i64 v6 56)) (by omega))
  have HH6 := hidden (hh.set4 (bits .and .i64 v6 56))
  (try clear k0 k1 k2 k3 k4 k5 kf)
  obtain ⟨k0, k1, k2, k3, k4, k5, kf⟩ := hh
  clear hb hr hc
  go_wp2_with (go_at_call 36; (refine (field_at p n c xs _ (w.heap.size + 1) 20 4 24 v7 E7.out HC6.out (HY.out.below HB6.out) (by omega) (by omega) rfl (by omega)).mono ?_))
  rintro e w7 ⟨rfl, hc, hg⟩
  have hb := HB6.out.grown hg HB6.out.size (fun k hk => by simp at hk; omega)
  have hr := HR6.out.grown hg (by simp)
  have hh := HH6.out.grown hg (by simp)
  clear hg HC6 HB6 HR6 HH6
  have HB7 := hidden (hb.setCell (p := ⟨w.heap.size + 2, 5, none⟩) (by simp) (.int .u32 v7))
  have HR7 := hidden (hr.set_ne (w.heap.size + 2) 5 (.int .u32 v7) (by omega))
  have HC7 := hidden (hc.set_ne (w.heap.size + 2) 5 (.int .u32 v7) (by omega))
  have HH7 := hidden (hh.set5 v7)
  (try clear k0 k1 k2 k3 k4 k5 kf)
  obtain ⟨k0, k1, k2, k3, k4, k5, kf⟩ := hh
  clear hb hr hc
  go_wp2_with (go_at_call 36; (refine (field_at p n c xs _ (w.heap.size + 1) 24 4 28 v8 E8.out HC7.out (HY.out.below HB7.out) (by omega) (by omega) rfl (by omega)).mono ?_))
  rintro e w8 ⟨rfl, hc, hg⟩
  have hb := HB7.out.grown hg HB7.out.size (fun k hk => by simp at hk; omega)
  have hr := HR7.out.grown hg (by simp)
  have hh := HH7.out.grown hg (by simp)
  clear hg HC7 HB7 HR7 HH7
  have HB8 := hidden hb
  have HR8 := hidden hr
  have HC8 := hidden hc
  have HH8 := hidden hh
  clear hb hr hc hh
  clear E1 E2 E3 E4 E5 E6 E7 E8 HY
  (try clear k0 k1 k2 k3 k4 k5 kf)
  obtain ⟨k0, k1, k2, k3, k4, k5, kf⟩ := HH8.out
  obtain ⟨r0, r1, r2, r3, r4, r5, rf⟩ := HR8.out
  obtain ⟨u0, u1, u2, uf⟩ := HC8.out
  by_cases q4 : v4 / 16 = 2
  case neg =>
    have hp : parseV v1 v2 v3 v4 v5 v6 v7 v8 n = (Hdr.zero, 3) := by rw [parseV, if_pos q4]
    have HP := hidden hp
    have q4' : (v4 / 16 != 2) = true := by simpa using q4
    clear hp
    go_wp2
    refine ret_hdr2 (g := w.heap.size) rfl rfl rfl rfl (stored_hdr HR8.out) ?_
    rw [HP.out]
    exact ⟨rfl, stored_below HB8.out (Nat.le_refl _)⟩
  have q4' : (v4 / 16 != 2) = false := by simp [q4]
  have HQ4 := hidden q4
  by_cases q8 : v8 = n
  case neg =>
    have hp : parseV v1 v2 v3 v4 v5 v6 v7 v8 n = (Hdr.zero, 2) := by rw [parseV, if_neg (by simp [q4]), if_pos q8]
    have HP := hidden hp
    have q8' : (v8 != (n : Int)) = true := by simpa using q8
    clear hp q4
    go_wp2
    refine ret_hdr2 (g := w.heap.size) rfl rfl rfl rfl (stored_hdr HR8.out) ?_
    rw [HP.out]
    exact ⟨rfl, stored_below HB8.out (Nat.le_refl _)⟩
  have q8' : (v8 != (n : Int)) = false := by simp [q8]
  have hp0 : parseV v1 v2 v3 v4 v5 v6 v7 v8 n = if checkR v1 v2 v3 v5 (bits .and .i64 v6 56) v7 ≠ 0 then (Hdr.zero, checkR v1 v2 v3 v5 (bits .and .i64 v6 56) v7) else (⟨v1, v2, v3, v5, bits .and .i64 v6 56, v7⟩, 0) := by
    rw [parseV, if_neg (by simp [q4]), if_neg (by simp [q8])]
  generalize bits .and .i64 v6 56 = y at *
  rcases hz : checkR v1 v2 v3 v5 y v7 with z
  have HC := hidden (fun w => check_at v1 v2 v3 v5 y v7 _ w hz)
  rw [hz] at hp0
  have HP0 := hidden hp0
  clear hp0 hz q4 q8 HQ4
  go_wp2_with (go_at_call 15; (with_reducible refine (HC.out _).mono ?_))
  rintro e w9 ⟨rfl, hb⟩
  have HB9 := hidden (HB8.out.trans (hb.mono HB8.out.size))
  have HR9 := hidden (HR8.out.below hb)
  have HH9 := hidden (HH8.out.below hb)
  clear hb HB8 HR8 HH8 HC8 HC k0 k1 k2 k3 k4 k5 kf r0 r1 r2 r3 r4 r5 rf u0 u1 u2 uf
  obtain ⟨k0, k1, k2, k3, k4, k5, kf⟩ := HH9.out
  obtain ⟨r0, r1, r2, r3, r4, r5, rf⟩ := HR9.out
  by_cases hz0 : z = 0
  · subst hz0
    go_wp2
    refine ret_hdr2 (g := w.heap.size) rfl rfl rfl rfl (stored_hdr HR9.out) ?_
    rw [HP0.out, if_neg (by simp)]
    exact ⟨rfl, stored_below HB9.out (Nat.le_refl _)⟩
  · have hz1 : (z != 0) = true := by simpa using hz0
    have HZ := hidden hz0
    clear hz0
    go_wp2
    refine ret_hdr2 (g := w.heap.size) rfl rfl rfl rfl (stored_hdr HR9.out) ?_
    rw [HP0.out, if_pos HZ.out]
    exact ⟨rfl, stored_below HB9.out (Nat.le_refl _)⟩


set_option maxHeartbeats 1600000 in
theorem parse_short (p : Option Addr) (n c : Nat) (xs : List Int) (w : World) (h : Byt w p n c xs) (hn : n < 28) :
    Calls Tryz.prog 20 #[.slice p n c] w (Parsed w (Hdr.zero, 1)) := by
  have hle := h.le
  have HY := hidden h
  clear h
  have HW := hidden (show ∀ w3, w3 = ((w.alloc (.cells #[.int .u64 0, .int .u64 0, .int .i64 0, .int .i64 0, .int .i64 0, .int .u32 0] 36)).alloc (.cells #[.slice p n c, .int .i64 0, .int .i64 0] 93)).alloc (.cells #[.int .u64 0, .int .u64 0, .int .i64 0, .int .i64 0, .int .i64 0, .int .u32 0] 36) →
      Three w w3 w.heap.size 0 0 0 0 0 0 ∧ CurPart w3 (w.heap.size + 1) p n c 0 by
    rintro w3 rfl
    have hb := (((Below.refl w.heap.size w).alloc (Nat.le_refl _) (.cells #[.int .u64 0, .int .u64 0, .int .i64 0, .int .i64 0, .int .i64 0, .int .u32 0] 36)).alloc (by simp) (.cells #[.slice p n c, .int .i64 0, .int .i64 0] 93)).alloc (by simp; omega) (.cells #[.int .u64 0, .int .u64 0, .int .i64 0, .int .i64 0, .int .i64 0, .int .u32 0] 36)
    refine ⟨⟨hb, ((HdrIn.new w 0 0 0 0 0 0 36).alloc _).alloc _, ?_, rfl⟩, 0, 0, ?_, Or.inl ⟨rfl, rfl, by omega⟩⟩
    · have := HdrIn.new ((w.alloc (.cells #[.int .u64 0, .int .u64 0, .int .i64 0, .int .i64 0, .int .i64 0, .int .u32 0] 36)).alloc (.cells #[.slice p n c, .int .i64 0, .int .i64 0] 93)) 0 0 0 0 0 0 36
      simpa using this
    · refine Cur.alloc ?_ _
      exact ⟨by go_simp, by go_simp, by go_simp, fun j => by go_simp⟩)
  go_enter Tryz.func20, Tryz.ntmps20
  have H0 := (HW.out _ rfl).1
  have HC0 := hidden (HW.out _ rfl).2
  have HB0 := hidden H0.bel
  have HR0 := hidden H0.res
  have HH0 := hidden H0.hdr
  clear H0 HW
  go_wp2_with (go_at_call 36; (refine (field_some p n c xs _ (w.heap.size + 1) 0 8 8 HC0.out (HY.out.below HB0.out) (by omega) (by omega) rfl 18446744073709551615 (by decide) (by decide)).mono ?_))
  rintro e w1 ⟨z1, rfl, z1a, z1b, hc, hg⟩
  have hb := HB0.out.grown hg HB0.out.size (fun k hk => by simp at hk; omega)
  have hr := HR0.out.grown hg (by simp)
  have hh := HH0.out.grown hg (by simp)
  clear hg HC0 HB0 HR0 HH0
  have HB1 := hidden (hb.setCell (p := ⟨w.heap.size + 2, 0, none⟩) (by simp) (.int .u64 z1))
  have HR1 := hidden (hr.set_ne (w.heap.size + 2) 0 (.int .u64 z1) (by omega))
  have HC1 := hidden (hc.set_ne (w.heap.size + 2) 0 (.int .u64 z1) (by omega))
  have HH1 := hidden (hh.set0 z1)
  (try clear k0 k1 k2 k3 k4 k5 kf)
  obtain ⟨k0, k1, k2, k3, k4, k5, kf⟩ := hh
  clear hb hr hc
  go_wp2_with (go_at_call 36; (refine (field_some p n c xs _ (w.heap.size + 1) 8 8 16 HC1.out (HY.out.below HB1.out) (by omega) (by omega) rfl 18446744073709551615 (by decide) (by decide)).mono ?_))
  rintro e w2 ⟨z2, rfl, z2a, z2b, hc, hg⟩
  have hb := HB1.out.grown hg HB1.out.size (fun k hk => by simp at hk; omega)
  have hr := HR1.out.grown hg (by simp)
  have hh := HH1.out.grown hg (by simp)
  clear hg HC1 HB1 HR1 HH1
  have HB2 := hidden (hb.setCell (p := ⟨w.heap.size + 2, 1, none⟩) (by simp) (.int .u64 z2))
  have HR2 := hidden (hr.set_ne (w.heap.size + 2) 1 (.int .u64 z2) (by omega))
  have HC2 := hidden (hc.set_ne (w.heap.size + 2) 1 (.int .u64 z2) (by omega))
  have HH2 := hidden (hh.set1 z2)
  (try clear k0 k1 k2 k3 k4 k5 kf)
  obtain ⟨k0, k1, k2, k3, k4, k5, kf⟩ := hh
  clear hb hr hc
  go_wp2_with (go_at_call 36; (refine (field_some p n c xs _ (w.heap.size + 1) 16 1 17 HC2.out (HY.out.below HB2.out) (by omega) (by omega) rfl 255 (by decide) (by decide)).mono ?_))
  rintro e w3 ⟨z3, rfl, z3a, z3b, hc, hg⟩
  have hb := HB2.out.grown hg HB2.out.size (fun k hk => by simp at hk; omega)
  have hr := HR2.out.grown hg (by simp)
  have hh := HH2.out.grown hg (by simp)
  clear hg HC2 HB2 HR2 HH2
  have HB3 := hidden (hb.setCell (p := ⟨w.heap.size + 2, 2, none⟩) (by simp) (.int .i64 z3))
  have HR3 := hidden (hr.set_ne (w.heap.size + 2) 2 (.int .i64 z3) (by omega))
  have HC3 := hidden (hc.set_ne (w.heap.size + 2) 2 (.int .i64 z3) (by omega))
  have HH3 := hidden (hh.set2 z3)
  (try clear k0 k1 k2 k3 k4 k5 kf)
  obtain ⟨k0, k1, k2, k3, k4, k5, kf⟩ := hh
  clear hb hr hc
  go_wp2_with (go_at_call 36; (refine (field_some p n c xs _ (w.heap.size + 1) 17 1 18 HC3.out (HY.out.below HB3.out) (by omega) (by omega) rfl 255 (by decide) (by decide)).mono ?_))
  rintro e w4 ⟨z4, rfl, z4a, z4b, hc, hg⟩
  have hb := HB3.out.grown hg HB3.out.size (fun k hk => by simp at hk; omega)
  have hr := HR3.out.grown hg (by simp)
  have hh := HH3.out.grown hg (by simp)
  clear hg HC3 HB3 HR3 HH3
  have HB4 := hidden hb
  have HR4 := hidden hr
  have HC4 := hidden hc
  have HH4 := hidden hh
  clear hb hr hc hh
  go_wp2_with (go_at_call 36; (refine (field_some p n c xs _ (w.heap.size + 1) 18 1 19 HC4.out (HY.out.below HB4.out) (by omega) (by omega) rfl 255 (by decide) (by decide)).mono ?_))
  rintro e w5 ⟨z5, rfl, z5a, z5b, hc, hg⟩
  have hb := HB4.out.grown hg HB4.out.size (fun k hk => by simp at hk; omega)
  have hr := HR4.out.grown hg (by simp)
  have hh := HH4.out.grown hg (by simp)
  clear hg HC4 HB4 HR4 HH4
  have HB5 := hidden (hb.setCell (p := ⟨w.heap.size + 2, 3, none⟩) (by simp) (.int .i64 z5))
  have HR5 := hidden (hr.set_ne (w.heap.size + 2) 3 (.int .i64 z5) (by omega))
  have HC5 := hidden (hc.set_ne (w.heap.size + 2) 3 (.int .i64 z5) (by omega))
  have HH5 := hidden (hh.set3 z5)
  (try clear k0 k1 k2 k3 k4 k5 kf)
  obtain ⟨k0, k1, k2, k3, k4, k5, kf⟩ := hh
  clear hb hr hc
  go_wp2_with (go_at_call 36; (refine (field_some p n c xs _ (w.heap.size + 1) 19 1 20 HC5.out (HY.out.below HB5.out) (by omega) (by omega) rfl 255 (by decide) (by decide)).mono ?_))
  rintro e w6 ⟨z6, rfl, z6a, z6b, hc, hg⟩
  have hb := HB5.out.grown hg HB5.out.size (fun k hk => by simp at hk; omega)
  have hr := HR5.out.grown hg (by simp)
  have hh := HH5.out.grown hg (by simp)
  clear hg HC5 HB5 HR5 HH5
  have HB6 := hidden (hb.setCell (p := ⟨w.heap.size + 2, 4, none⟩) (by simp) (.int .i64 (bits .and .i64 z6 56)))
  have HR6 := hidden (hr.set_ne (w.heap.size + 2) 4 (.int .i64 (bits .and .i64 z6 56)) (by omega))
  have HC6 := hidden (hc.set_ne (w.heap.size + 2) 4 (.int .i64 (bits .and .i64 z6 56)) (by omega))
  have HH6 := hidden (hh.set4 (bits .and .i64 z6 56))
  (try clear k0 k1 k2 k3 k4 k5 kf)
  obtain ⟨k0, k1, k2, k3, k4, k5, kf⟩ := hh
  clear hb hr hc
  go_wp2_with (go_at_call 36; (refine (field_some p n c xs _ (w.heap.size + 1) 20 4 24 HC6.out (HY.out.below HB6.out) (by omega) (by omega) rfl 4294967295 (by decide) (by decide)).mono ?_))
  rintro e w7 ⟨z7, rfl, z7a, z7b, hc, hg⟩
  have hb := HB6.out.grown hg HB6.out.size (fun k hk => by simp at hk; omega)
  have hr := HR6.out.grown hg (by simp)
  have hh := HH6.out.grown hg (by simp)
  clear hg HC6 HB6 HR6 HH6
  have HB7 := hidden (hb.setCell (p := ⟨w.heap.size + 2, 5, none⟩) (by simp) (.int .u32 z7))
  have HR7 := hidden (hr.set_ne (w.heap.size + 2) 5 (.int .u32 z7) (by omega))
  have HC7 := hidden (hc.set_ne (w.heap.size + 2) 5 (.int .u32 z7) (by omega))
  have HH7 := hidden (hh.set5 z7)
  (try clear k0 k1 k2 k3 k4 k5 kf)
  obtain ⟨k0, k1, k2, k3, k4, k5, kf⟩ := hh
  clear hb hr hc
  go_wp2_with (go_at_call 36; (refine (field_some p n c xs _ (w.heap.size + 1) 24 4 28 HC7.out (HY.out.below HB7.out) (by omega) (by omega) rfl 4294967295 (by decide) (by decide)).mono ?_))
  rintro e w8 ⟨z8, rfl, z8a, z8b, hc, hg⟩
  have hb := HB7.out.grown hg HB7.out.size (fun k hk => by simp at hk; omega)
  have hr := HR7.out.grown hg (by simp)
  have hh := HH7.out.grown hg (by simp)
  clear hg HC7 HB7 HR7 HH7
  have HB8 := hidden hb
  have HR8 := hidden hr
  have HC8 := hidden hc
  have HH8 := hidden hh
  clear hb hr hc hh
  clear HY HH8
  (try clear k0 k1 k2 k3 k4 k5 kf)
  obtain ⟨a, e, hcur, he⟩ := HC8.out
  obtain rfl : e = 1 := by omega
  obtain ⟨r0, r1, r2, r3, r4, r5, rf⟩ := HR8.out
  obtain ⟨u0, u1, u2, uf⟩ := hcur
  clear HC8 he
  go_wp2
  go_region
  all_goals
    go_wp2
    refine ret_hdr2 (g := w.heap.size) rfl rfl rfl rfl (HdrIn.drew (stored_hdr HR8.out)) ?_
    exact ⟨rfl, (stored_below HB8.out (Nat.le_refl _)).drew⟩

theorem numAt_bd (xs : List Int) (a d : Nat) (h : ∀ x ∈ xs, 0 ≤ x ∧ x ≤ 255) (hl : a + d ≤ xs.length) (M : Int) (hM : (256 : Int) ^ d ≤ M + 1) : 0 ≤ numAt xs a d ∧ numAt xs a d ≤ M := by
  have hb := val_bd ((xs.drop a).take d) (rng_take (rng_drop h _) _)
  rw [show ((xs.drop a).take d).length = d by simp; omega] at hb
  exact ⟨hb.1, by have := hb.2; unfold numAt; omega⟩

theorem parse_any (p : Option Addr) (n c : Nat) (xs : List Int) (w : World) (h : Byt w p n c xs) :
    Calls Tryz.prog 20 #[.slice p n c] w (Parsed w (parseR xs)) := by
  have hl := h.len
  by_cases hn : n < 28
  · rw [parseR, if_pos (by omega)]
    exact parse_short p n c xs w h hn
  · rw [parseR, if_neg (by omega), hl]
    exact parse_core p n c xs w h (by omega) _ _ _ _ _ _ _ _ rfl rfl rfl rfl rfl rfl rfl rfl
      (numAt_bd xs 0 8 h.rng (by omega) _ (by decide)) (numAt_bd xs 8 8 h.rng (by omega) _ (by decide)) (numAt_bd xs 16 1 h.rng (by omega) _ (by decide)) (numAt_bd xs 17 1 h.rng (by omega) _ (by decide))
      (numAt_bd xs 18 1 h.rng (by omega) _ (by decide)) (numAt_bd xs 19 1 h.rng (by omega) _ (by decide)) (numAt_bd xs 20 4 h.rng (by omega) _ (by decide)) (numAt_bd xs 24 4 h.rng (by omega) _ (by decide))
end Go.Proofs.YtkniifopfgeopaaGreat

namespace Go.Proofs.YtkniifopfgeopaaGreat
open Go.RowKit
set_option linter.unusedVariables false

/-- A notification or a vendor's payload. -/
def plainP (x : Pv) : Bool := x.t == 41 || x.t == 43
set_option maxHeartbeats 6400000 in
set_option maxRecDepth 100000 in
theorem asksCookie_any (i r nx x f m : Int) (p : Option Addr) (n c : Nat) (l : List Pv) (w : World) (h : RdG KPv DPv w p n c l) (hn : n ≤ 100000) :
    Calls Tryz.prog 43 #[.agg #[.int .u64 i, .int .u64 r, .int .i64 nx, .int .i64 x, .int .i64 f, .int .u32 m, .slice p n c]] w fun e w' => e = .returned (.bool (l.all plainP && l.any (isNote 16390))) ∧ Below w.heap.size w w' := by
  have HBX := hidden ((Below.refl w.heap.size w).alloc (Nat.le_refl _) (.cells #[.int .u64 i, .int .u64 r, .int .i64 nx, .int .i64 x, .int .i64 f, .int .u32 m, .slice p n c] 39))
  have H := hidden h
  have HCX : Hid (∀ j u, (#[Value.int .u64 i, .int .u64 r, .int .i64 nx, .int .i64 x, .int .i64 f, .int .u32 m, .slice p n c] : Array Value)[j]? = some u → (w.alloc (.cells #[.int .u64 i, .int .u64 r, .int .i64 nx, .int .i64 x, .int .i64 f, .int .u32 m, .slice p n c] 39)).cell? ⟨w.heap.size, j, none⟩ = some u) := fun j u hj => by
    rw [World.cell?_alloc_at _ _ _ _ rfl]
    simpa using hj
  have HN := hidden (fun W (hW : Below w.heap.size w W) => notes_any i r nx x f m p n c l 16390 W (h.below hW) hn)
  obtain ⟨A, hA⟩ : ∃ A, l.any (isNote 16390) = A := ⟨_, rfl⟩
  rw [hA] at HN ⊢
  obtain ⟨R, hR⟩ : ∃ R, (l.all plainP && A) = R := ⟨_, rfl⟩
  have HR : Is ((l.drop 0).all plainP && A) R := ⟨by simpa using hR⟩
  rw [hR]
  clear hR h hA
  go_enter Tryz.func43, Tryz.ntmps43
  go_wp2_with fail
  go_loopw [8] (fun v wr => ∃ (j : Nat), j ≤ n ∧ v = .int .i64 j ∧ Is ((l.drop j).all plainP && A) R ∧ Below (w.heap.size + 1) (w.alloc (.cells #[.int .u64 i, .int .u64 r, .int .i64 nx, .int .i64 x, .int .i64 f, .int .u32 m, .slice p n c] 39)) wr) (fun v _ => n - (intOf v).toNat)
  case atStart => exact ⟨0, by omega, rfl, HR, Below.refl _ _⟩
  case round =>
    obtain ⟨j, hj, rfl, hrel, hb⟩ := hrel
    have hb' : Below (w.alloc (.cells #[.int .u64 i, .int .u64 r, .int .i64 nx, .int .i64 x, .int .i64 f, .int .u32 m, .slice p n c] 39)).heap.size (w.alloc (.cells #[.int .u64 i, .int .u64 r, .int .i64 nx, .int .i64 x, .int .i64 f, .int .u32 m, .slice p n c] 39)) wr := by simpa using hb
    have HB := hidden (HBX.out.trans (hb'.mono HBX.out.size))
    have HB1 := hidden hb
    have m0 := cell_below hb' _ _ (HCX.out 0 _ rfl)
    have m1 := cell_below hb' _ _ (HCX.out 1 _ rfl)
    have m2 := cell_below hb' _ _ (HCX.out 2 _ rfl)
    have m3 := cell_below hb' _ _ (HCX.out 3 _ rfl)
    have m4 := cell_below hb' _ _ (HCX.out 4 _ rfl)
    have m5 := cell_below hb' _ _ (HCX.out 5 _ rfl)
    have m6 := cell_below hb' _ _ (HCX.out 6 _ rfl)
    have hsz : w.heap.size + 1 ≤ wr.heap.size := by have := hb'.size; simpa using this
    clear hb hb'
    by_cases hlt : j < n
    · have hlt' : (j : Int) < n := by omega
      obtain ⟨g, y, rfl, hx, hdr, hok, hc⟩ := (H.out.below HB.out).drop_cons hlt
      have c0 := hc 0 _ rfl
      have c1 := hc 1 _ rfl
      have c2 := hc 2 _ rfl
      have c3 := hc 3 _ rfl
      have c4 := hc 4 _ rfl
      have c5 := hc 5 _ rfl
      have c6 := hc 6 _ rfl
      have c7 := hc 7 _ rfl
      have c8 := hc 8 _ rfl
      have c9 := hc 9 _ rfl
      have c10 := hc 10 _ rfl
      have c11 := hc 11 _ rfl
      have c12 := hc 12 _ rfl
      have c13 := hc 13 _ rfl
      have c14 := hc 14 _ rfl
      have c15 := hc 15 _ rfl
      simp only [Nat.add_zero] at c0
      have hf := hrel.eq
      rw [hdr, List.all_cons] at hf
      have HBP := hidden (HB1.out.alloc hsz (.cells #[.int .i64 y.t, .slice y.pr.p y.pr.n y.pr.c, .int .i64 y.eg, .slice y.ed.p y.ed.n y.ed.c, .int .i64 y.ik, .slice y.id.p y.id.n y.id.c, .int .i64 y.am, .slice y.ad.p y.ad.n y.ad.c, .int .i64 y.np, .slice y.ns.p y.ns.n y.ns.c, .int .i64 y.nt, .slice y.nd.p y.nd.n y.nd.c, .int .i64 y.dp, .slice y.ds.p y.ds.n y.ds.c, .slice y.se.p y.se.n y.se.c, .slice y.da.p y.da.n y.da.c] 59))
      have HBQ := hidden (HB.out.alloc HB.out.size (.cells #[.int .i64 y.t, .slice y.pr.p y.pr.n y.pr.c, .int .i64 y.eg, .slice y.ed.p y.ed.n y.ed.c, .int .i64 y.ik, .slice y.id.p y.id.n y.id.c, .int .i64 y.am, .slice y.ad.p y.ad.n y.ad.c, .int .i64 y.np, .slice y.ns.p y.ns.n y.ns.c, .int .i64 y.nt, .slice y.nd.p y.nd.n y.nd.c, .int .i64 y.dp, .slice y.ds.p y.ds.n y.ds.c, .slice y.se.p y.se.n y.se.c, .slice y.da.p y.da.n y.da.c] 59))
      clear hok hrel hdr hx hc
      have HGO := hidden (fun (e : plainP y = true) => (⟨by rw [e, Bool.true_and] at hf; exact hf⟩ : Is ((l.drop (j + 1)).all plainP && A) R))
      have HNO := hidden (fun (e : plainP y = false) => (⟨by rw [e] at hf; simpa using hf⟩ : Is false R))
      clear hf
      by_cases h1 : y.t = 41
      · have HT := HGO.out (by simp [plainP, h1])
        have q1 : (y.t != 41) = false := by simp [h1]
        clear HGO HNO h1
        go_wp2
        go_roundw
        case rel => exact ⟨j + 1, by omega, by go_num, HT, HBP.out⟩
        case measure => simp [intOf]; omega
      by_cases h2 : y.t = 43
      · have HT := HGO.out (by simp [plainP, h2])
        have q1 : (y.t != 41) = true := by simp [h1]
        have q2 : (y.t != 43) = false := by simp [h2]
        clear HGO HNO h1 h2
        go_wp2
        go_roundw
        case rel => exact ⟨j + 1, by omega, by go_num, HT, HBP.out⟩
        case measure => simp [intOf]; omega
      have HT := HNO.out (by simp [plainP, h1, h2])
      have q1 : (y.t != 41) = true := by simp [h1]
      have q2 : (y.t != 43) = true := by simp [h2]
      clear HGO HNO h1 h2
      go_wp2
      go_ret
      exact ⟨by rw [← HT.eq]; rfl, HBQ.out⟩
    · have hlt' : ¬ (j : Int) < n := by omega
      have hd : l.drop j = [] := List.drop_eq_nil_of_le (by rw [H.out.len]; omega)
      have hf := hrel.eq
      rw [hd, List.all_nil, Bool.true_and] at hf
      have HF := Is.mk hf
      clear hf hd hrel
      go_wp2_with (first
        | (go_at_call 56; (with_reducible refine (HN.out _ HB.out).mono ?_); rintro _ w1 ⟨⟨q, k, d, rfl, hk, hkn⟩, hb1⟩; have HK := Is.mk hk; have HB2 := hidden (HB.out.trans (hb1.mono HB.out.size)); clear hb1 hk)
        | fail)
      go_ret
      exact ⟨by rw [← HF.eq, ← HK.eq]; simp, HB2.out⟩
end Go.Proofs.YtkniifopfgeopaaGreat

namespace Go.Proofs.YtkniifopfgeopaaGreat
open Go.RowKit
set_option linter.unusedVariables false

/-- A payload that lies in a block. -/
structure RawIn (w : World) (g : Nat) (k : Int) (c : Bool) (p : Option Addr) (n m : Nat) : Prop where
  c0 : w.cell? ⟨g, 0, none⟩ = some (.int .i64 k)
  c1 : w.cell? ⟨g, 1, none⟩ = some (.bool c)
  c2 : w.cell? ⟨g, 2, none⟩ = some (.slice p n m)
/-- A payload that lies in a block that may be written. -/
structure RawBox (w : World) (g : Nat) : Prop where
  ex : ∃ k c p n m, w.cell? ⟨g, 0, none⟩ = some (.int .i64 k) ∧ w.cell? ⟨g, 1, none⟩ = some (.bool c) ∧ w.cell? ⟨g, 2, none⟩ = some (.slice p n m)
  fr : ∀ j, w.frozen? ⟨g, j, none⟩ = false
theorem RawBox.grown {w w' : World} {g : Nat} {row : Option Nat} (h : RawBox w g) (hg : w.grownBy w' row) (hne : some g ≠ row) : RawBox w' g := by
  obtain ⟨⟨k, c, p, n, m, h0, h1, h2⟩, hf⟩ := h
  exact ⟨⟨k, c, p, n, m, hg.cell h0 hne, hg.cell h1 hne, hg.cell h2 hne⟩, fun j => (World.frozen?_of_block (a := ⟨g, j, none⟩) (hg.block g (World.block_lt_of_cell? w _ h0) hne)).trans (hf j)⟩
theorem RawBox.below {w w' : World} {g : Nat} (h : RawBox w g) (hb : Below w.heap.size w w') : RawBox w' g := h.grown (row := none) ⟨hb.os, hb.tape, hb.output, hb.size, fun i hi _ => hb.block i hi⟩ (by simp)
theorem RawBox.new (w : World) (k : Int) (c : Bool) (p : Option Addr) (n m : Nat) (T : TypeId) : RawBox (w.alloc (.cells #[.int .i64 k, .bool c, .slice p n m] T)) w.heap.size :=
  ⟨⟨k, c, p, n, m, by go_simp, by go_simp, by go_simp⟩, fun j => by go_simp⟩
theorem load_raw {w : World} {g : Nat} {k : Int} {c : Bool} {p : Option Addr} {n m : Nat} (h : RawIn w g k c p n m) : (loadVar 82 ⟨g, 0, none⟩).run Tryz.prog w = .ok (.agg #[.int .i64 k, .bool c, .slice p n m]) w := by
  obtain ⟨c0, c1, c2⟩ := h
  simp [loadVar, go_sem, c0, c1, c2, Result.andThen]
theorem ret_raw2 {fn : Func} {R : Ending → World → Prop} {a : Act} {w : World} {b u : Nat} {g : Nat} {k : Int} {c : Bool} {p : Option Addr} {n m : Nat} {v : Value} (h : fn.results = #[.cell b 82, .tmp u]) (hp : a.tmps.getD b undef = .pointer (some ⟨g, 0, none⟩)) (hu : a.tmps.getD u undef = v) (hd : a.defers = [])
    (hh : RawIn w g k c p n m) (hR : R (.returned (.tuple #[.agg #[.int .i64 k, .bool c, .slice p n m], v])) w) : bodyPost Tryz.prog fn R .ret a w := by
  refine bodyPost_ret (v := .tuple #[.agg #[.int .i64 k, .bool c, .slice p n m], v]) ?_ hd hR
  rw [results_cell_tmp h]
  simp only [hp]
  simp [Result.andThen, hu, asAddr, load_raw hh]

/-- The reader at block R. -/
structure Rdr (w : World) (R : Nat) (p : Option Addr) (n c : Nat) (at_ next inside err : Int) : Prop where
  c0 : w.cell? ⟨R, 0, none⟩ = some (.slice p n c)
  c1 : w.cell? ⟨R, 1, none⟩ = some (.int .i64 at_)
  c2 : w.cell? ⟨R, 2, none⟩ = some (.int .i64 next)
  c3 : w.cell? ⟨R, 3, none⟩ = some (.int .i64 inside)
  c4 : w.cell? ⟨R, 4, none⟩ = some (.int .i64 err)
  fr : ∀ j, w.frozen? ⟨R, j, none⟩ = false
theorem Rdr.lt {w : World} {R : Nat} {p : Option Addr} {n c : Nat} {at_ next inside err : Int} (h : Rdr w R p n c at_ next inside err) : R < w.heap.size := World.block_lt_of_cell? w _ h.c0
theorem Rdr.grown {w w' : World} {R : Nat} {p : Option Addr} {n c : Nat} {at_ next inside err : Int} {row : Option Nat} (h : Rdr w R p n c at_ next inside err) (hg : w.grownBy w' row) (hne : some R ≠ row) : Rdr w' R p n c at_ next inside err :=
  ⟨hg.cell h.c0 hne, hg.cell h.c1 hne, hg.cell h.c2 hne, hg.cell h.c3 hne, hg.cell h.c4 hne, fun j => (World.frozen?_of_block (a := ⟨R, j, none⟩) (hg.block R h.lt hne)).trans (h.fr j)⟩
theorem Rdr.below {w w' : World} {R : Nat} {p : Option Addr} {n c : Nat} {at_ next inside err : Int} {B : Nat} (h : Rdr w R p n c at_ next inside err) (hb : Below B w w') (hR : R < B) : Rdr w' R p n c at_ next inside err :=
  have hc : ∀ a : Addr, a.block = R → w'.cell? a = w.cell? a := fun a ha => hb.cell (by rw [ha]; exact hR)
  ⟨(hc _ rfl).trans h.c0, (hc _ rfl).trans h.c1, (hc _ rfl).trans h.c2, (hc _ rfl).trans h.c3, (hc _ rfl).trans h.c4, fun j => (World.frozen?_of_block (a := ⟨R, j, none⟩) (hb.block R hR)).trans (h.fr j)⟩

/-- Four bytes as a number. -/
theorem four (xs : List Int) (hr : ∀ x ∈ xs, 0 ≤ x ∧ x ≤ 255) (a : Nat) (h : a + 4 ≤ xs.length) :
    ∃ hd : Int, val ((xs.drop a).take 4) = hd ∧ 0 ≤ hd ∧ hd < 4294967296 ∧ hd / 16777216 = xs.getD a 0 ∧ hd / 65536 = xs.getD a 0 * 256 + xs.getD (a + 1) 0 ∧ hd % 65536 = lenC (xs.drop a) := by
  have e : (xs.drop a).take 4 = [xs.getD a 0, xs.getD (a + 1) 0, xs.getD (a + 2) 0, xs.getD (a + 3) 0] := by
    rw [List.drop_eq_getElem_cons (by omega), List.take_succ_cons, List.drop_eq_getElem_cons (by omega), List.take_succ_cons, List.drop_eq_getElem_cons (by omega), List.take_succ_cons, List.drop_eq_getElem_cons (by omega), List.take_succ_cons, List.take_zero]
    simp [List.getD_eq_getElem?_getD, List.getElem?_eq_getElem (show a < xs.length by omega), List.getElem?_eq_getElem (show a + 1 < xs.length by omega), List.getElem?_eq_getElem (show a + 2 < xs.length by omega), List.getElem?_eq_getElem (show a + 3 < xs.length by omega)]
  have r0 := rng_getD hr a
  have r1 := rng_getD hr (a + 1)
  have r2 := rng_getD hr (a + 2)
  have r3 := rng_getD hr (a + 3)
  have hl : lenC (xs.drop a) = xs.getD (a + 2) 0 * 256 + xs.getD (a + 3) 0 := by rw [lenC, getD_drop, getD_drop]
  have hv : val [xs.getD a 0, xs.getD (a + 1) 0, xs.getD (a + 2) 0, xs.getD (a + 3) 0] = ((xs.getD a 0 * 256 + xs.getD (a + 1) 0) * 256 + xs.getD (a + 2) 0) * 256 + xs.getD (a + 3) 0 := by simp [val]
  refine ⟨_, rfl, ?_⟩
  rw [e, hv, hl]
  generalize xs.getD a 0 = x0 at *
  generalize xs.getD (a + 1) 0 = x1 at *
  generalize xs.getD (a + 2) 0 = x2 at *
  generalize xs.getD (a + 3) 0 = x3 at *
  refine ⟨by omega, by omega, by omega, by omega, by omega⟩
theorem bit7 (x y : Int) (hx : 0 ≤ x ∧ x ≤ 255) (hy : 0 ≤ y ∧ y ≤ 255) : (bits .and .u64 (x * 256 + y) 128 != 0) = decide (128 ≤ y) := by
  obtain ⟨a, rfl⟩ := Int.eq_ofNat_of_zero_le hx.1
  obtain ⟨b, rfl⟩ := Int.eq_ofNat_of_zero_le hy.1
  have h := bits_and_u64_nat (a * 256 + b) 128 (by omega) (by omega)
  have e : (((a * 256 + b : Nat) : Int)) = (a : Int) * 256 + (b : Int) := by simp
  rw [e] at h
  rw [show ((128 : Nat) : Int) = 128 from rfl] at h
  have h1 : (a * 256 + b) &&& 128 = b &&& 128 := by
    have h2 : ((a * 256 + b) &&& 128) % 2 ^ 8 = ((a * 256 + b) % 2 ^ 8) &&& (128 % 2 ^ 8) := Nat.and_mod_two_pow
    have h3 : (a * 256 + b) &&& 128 ≤ 128 := Nat.and_le_right
    have h4 : (a * 256 + b) % 2 ^ 8 = b := by omega
    rw [h4, show (128 % 2 ^ 8 : Nat) = 128 from rfl] at h2
    omega
  rw [h, h1]
  have : ∀ j : Fin 256, ((((j.val &&& 128 : Nat)) : Int) != 0) = decide (128 ≤ ((j.val : Nat) : Int)) := by decide +kernel
  exact this ⟨b, by omega⟩

theorem grown_set_R {a b : World} {R : Nat} (h : a.grownBy b (some R)) (j : Nat) (v : Value) : a.grownBy (b.setCell ⟨R, j, none⟩ v) (some R) := grown_trans h (grown_set b R j v)
theorem Bod.set_low {w : World} {base : Nat} {p : Option Addr} {n c : Nat} {xs : List Int} (h : Bod w base p n c xs) (g j : Nat) (v : Value) (hg : g < base) : Bod (w.setCell ⟨g, j, none⟩ v) base p n c xs := h.grown (grown_set w g j v) (OffB.low hg)
theorem below_drewN_ {B : Nat} {a w : World} (h : Below B a w) (n : Nat) : Below B a (w.drewN n) := ⟨h.os, h.tape, h.output, h.size, h.block⟩

/-- The reader's answers. -/
def PayFail (w : World) (E : Int) (e : Ending) (w' : World) : Prop := e = .returned (.tuple #[.agg #[.int .i64 0, .bool false, .slice none 0 0], .int .i64 E]) ∧ Below w.heap.size w w'
def PayOk (w : World) (R : Nat) (p : Option Addr) (n c : Nat) (xs : List Int) (at_ m : Nat) (L kd inside err : Int) (e : Ending) (w' : World) : Prop :=
  ∃ q d, e = .returned (.tuple #[.agg #[.int .i64 kd, .bool (decide (128 ≤ xs.getD (at_ + 1) 0)), .slice q m d], .int .i64 0]) ∧ Bod w' w.heap.size q m d ((xs.drop (at_ + 4)).take m) ∧
    Rdr w' R p n c ((at_ : Int) + L) (if lastK kd then 0 else xs.getD at_ 0) (if lastK kd then xs.getD at_ 0 else inside) err ∧ w.grownBy w' (some R)

theorem num_short (p : Option Addr) (n c : Nat) (xs : List Int) (w : World) (h : Byt w p n c xs) (a : Nat) (ha : a ≤ n) (hs : n - a < 4) :
    Calls Tryz.prog 51 #[.slice p n c, .int .i64 a, .int .i64 4] w fun e w' => e = .returned (.tuple #[.int .u64 0, .bool false]) ∧ w = w' := by
  have hl := h.len
  have := number_any p n c xs w h a 4 (by have := h.le; omega) (by omega)
  rw [numR, if_neg (by omega)] at this
  exact this
theorem num_four (p : Option Addr) (n c : Nat) (xs : List Int) (w : World) (h : Byt w p n c xs) (a : Nat) (hin : a + 4 ≤ n) (hd : Int) (hv : val ((xs.drop a).take 4) = hd) :
    Calls Tryz.prog 51 #[.slice p n c, .int .i64 a, .int .i64 4] w fun e w' => e = .returned (.tuple #[.int .u64 hd, .bool true]) ∧ w = w' := by
  subst hv
  exact number_yes p n c xs w h a 4 (by omega) (by omega) hin
theorem slice_bad (p : Option Addr) (n c : Nat) (xs : List Int) (w : World) (h : Byt w p n c xs) (hb : n ≤ 140737488355328) (a : Nat) (ha : a + 4 ≤ n) (L : Int) (hL : 0 ≤ L ∧ L ≤ 65535) (hbad : L < 4 ∨ (n : Int) - a < L) :
    Calls Tryz.prog 69 #[.slice p n c, .int .i64 ((a : Int) + 4), .int .i64 (L - 4)] w fun e w' => ∃ q i d, e = .returned (.tuple #[.slice q i d, .bool false]) ∧ Below w.heap.size w w' := by
  have hl := h.len
  refine (slice_bod p n c xs w h hb (a + 4) (L - 4) (by have := h.le; omega) (by omega)).mono fun e w' hh => ?_
  rw [pieceR, if_neg (by omega)] at hh
  obtain ⟨q, i, d, he, _, hb⟩ := hh
  exact ⟨q, i, d, he, hb⟩
theorem slice_good (p : Option Addr) (n c : Nat) (xs : List Int) (w : World) (h : Byt w p n c xs) (hb : n ≤ 140737488355328) (a m : Nat) (ha : a + 4 + m ≤ n) (L : Int) (hL : L - 4 = (m : Int)) :
    Calls Tryz.prog 69 #[.slice p n c, .int .i64 ((a : Int) + 4), .int .i64 (L - 4)] w fun e w' => ∃ q d, e = .returned (.tuple #[.slice q m d, .bool true]) ∧ Bod w' w.heap.size q m d ((xs.drop (a + 4)).take m) ∧ Below w.heap.size w w' := by
  have hl := h.len
  refine (slice_bod p n c xs w h hb (a + 4) (L - 4) (by have := h.le; omega) (by omega)).mono fun e w' hh => ?_
  have hp : pieceR xs ((a : Int) + 4) (L - 4) = ((xs.drop (a + 4)).take m, true) := by
    rw [pieceR, if_pos (by omega), hL]
    simp
    rfl
  rw [hp] at hh
  obtain ⟨q, n', d, he, hbod, hb'⟩ := hh
  obtain rfl : m = n' := by
    have := hbod.byt.len
    simp at this
    omega
  exact ⟨q, d, he, hbod, hb'⟩

set_option maxHeartbeats 1600000 in
theorem pay_short (w : World) (R : Nat) (p : Option Addr) (n c : Nat) (xs : List Int) (h : Byt w p n c xs) (hb : n ≤ 140737488351232) (at_ : Nat) (kd inside err : Int) (hr : Rdr w R p n c at_ kd inside err) (ha : at_ ≤ n) (hs : n - at_ < 4) :
    Calls Tryz.prog 52 #[.pointer (some ⟨R, 0, none⟩)] w (PayFail w 1) := by
  have hlt := hr.lt
  have HN := hidden (fun a => (num_short p n c xs ((w.alloc (.cells #[.int .i64 0, .bool false, .slice none 0 0] 82)).drewN a) ((h.alloc _).keep (fun _ _ h => h)) at_ ha hs).mono (R' := fun e w' => e = .returned (.tuple #[.int .u64 0, .bool false]) ∧ w' = ((w.alloc (.cells #[.int .i64 0, .bool false, .slice none 0 0] 82)).drewN a)) (fun e w' ⟨h1, h2⟩ => ⟨h1, h2.symm⟩))
  obtain ⟨c0, c1, c2, c3, c4, fr⟩ := hr
  have hR : R ≠ w.heap.size := by omega
  clear h
  go_enter Tryz.func52, Tryz.ntmps52
  go_wp2
  go_quiet ((go_at_call 51; (with_reducible exact Calls.quiet_of_same (HN.out _))))
  go_wp2
  refine ret_raw2 (g := w.heap.size) (k := 0) (c := false) (p := none) (n := 0) (m := 0) rfl rfl rfl rfl ⟨by go_simp, by go_simp, by go_simp⟩ ?_
  exact ⟨rfl, by have := Below.refl w.heap.size w; repeat' (first | with_reducible exact this | (with_reducible refine Below.alloc ?_ ?_ _) | (with_reducible refine Below.setCell ?_ ?_ _) | (with_reducible refine below_drewN_ ?_ _) | simp)⟩

set_option maxHeartbeats 1600000 in
theorem pay_wrong (w : World) (R : Nat) (p : Option Addr) (n c : Nat) (xs : List Int) (h : Byt w p n c xs) (hb : n ≤ 140737488351232) (at_ : Nat) (kd inside err : Int) (hr : Rdr w R p n c at_ kd inside err) (ha : at_ + 4 ≤ n) (L : Int) (hL : lenC (xs.drop at_) = L) (hbad : L < 4 ∨ (n : Int) - at_ < L) :
    Calls Tryz.prog 52 #[.pointer (some ⟨R, 0, none⟩)] w (PayFail w 2) := by
  have hlt := hr.lt
  have hl := h.len
  have hlb := lenC_bd (xs.drop at_) (rng_drop h.rng at_)
  rw [hL] at hlb
  obtain ⟨hd, hv, hd0, hd1, e0, e1, e2⟩ := four xs h.rng at_ (by omega)
  rw [hL] at e2
  have hx0 := rng_getD h.rng at_
  have hand := and16 hd hd0 (by omega)
  rw [e2] at hand
  have HN := hidden (fun a => (num_four p n c xs ((w.alloc (.cells #[.int .i64 0, .bool false, .slice none 0 0] 82)).drewN a) ((h.alloc _).keep (fun _ _ h => h)) at_ ha hd hv).mono (R' := fun e w' => e = .returned (.tuple #[.int .u64 hd, .bool true]) ∧ w' = ((w.alloc (.cells #[.int .i64 0, .bool false, .slice none 0 0] 82)).drewN a)) (fun e w' ⟨h1, h2⟩ => ⟨h1, h2.symm⟩))
  have hw4 : IntKind.i64.wrap ((at_ : Int) + 4) = (at_ : Int) + 4 := wraps_i64 _ (by omega) (by omega)
  have hwl : IntKind.i64.wrap (L - 4) = L - 4 := by rw [IntKind.wrap_i64]; omega
  have HS := hidden (fun w (h : Byt w p n c xs) => slice_bad p n c xs w h (by omega) at_ ha L hlb hbad)
  have HX := hidden h
  have HR := hidden hr
  obtain ⟨c0, c1, c2, c3, c4, fr⟩ := hr
  have hR : R ≠ w.heap.size := by omega
  clear h hl hL hv e1 e2 hbad
  generalize xs.getD at_ 0 = x0 at *
  go_enter Tryz.func52, Tryz.ntmps52
  go_wp2
  go_quiet ((go_at_call 51; (with_reducible exact Calls.quiet_of_same (HN.out _))))
  go_wp2
  obtain ⟨w1, hw1⟩ : ∃ v, v = (w.alloc (.cells #[.int .i64 0, .bool false, .slice none 0 0] 82)).drewN nq := ⟨_, rfl⟩
  rw [← hw1]
  have hb1 : Below w.heap.size w w1 := by rw [hw1]; exact below_drewN_ ((Below.refl _ w).alloc (Nat.le_refl _) _) _
  have hz1 : RawBox w1 w.heap.size := by rw [hw1]; exact (RawBox.new w 0 false none 0 0 82).below (drew_below ⟨_, rfl⟩)
  have hr1 := HR.out.below hb1 hlt
  have hx1 := HX.out.below hb1
  have hxd : Byt w1.drew p n c xs := hx1.keep (fun _ _ h => h)
  have HXD := hidden hxd
  have HB1 := hidden hb1
  have HZ1 := hidden hz1
  clear hw1 hb1 hz1 hx1 hxd c0 c1 c2 c3 c4 fr HX HN
  obtain ⟨c0, c1, c2, c3, c4, fr⟩ := hr1
  go_region_with (go_at_call 69; (with_reducible refine (HS.out _ HXD.out).mono ?_); rintro e w3 ⟨q, i, d, rfl, hb3⟩)
  all_goals
    have hb3' := HB1.out.drew.trans (hb3.mono (by have := HB1.out.size; exact this))
    have hz3 := (HZ1.out.below (drew_below ⟨1, rfl⟩)).below hb3
    have HB3 := hidden hb3'
    obtain ⟨⟨k, cc, pp, nn, mm, z0, z1, z2⟩, zf⟩ := hz3
    clear hb3 hb3' c0 c1 c2 c3 c4 fr
    go_wp2
    refine ret_raw2 (g := w.heap.size) (k := 0) (c := false) (p := none) (n := 0) (m := 0) rfl rfl rfl rfl ⟨by go_simp, by go_simp, by go_simp⟩ ?_
    exact ⟨rfl, by have := HB3.out; repeat' (first | with_reducible exact this | (with_reducible refine Below.setCell ?_ ?_ _) | simp)⟩

set_option maxHeartbeats 3200000 in
theorem pay_ok (w : World) (R : Nat) (p : Option Addr) (n c : Nat) (xs : List Int) (h : Byt w p n c xs) (hb : n ≤ 140737488351232) (at_ : Nat) (kd inside err : Int) (hr : Rdr w R p n c at_ kd inside err) (L : Int) (hL : lenC (xs.drop at_) = L) (m : Nat) (hm : L - 4 = (m : Int)) (ha : at_ + 4 + m ≤ n) :
    Calls Tryz.prog 52 #[.pointer (some ⟨R, 0, none⟩)] w (PayOk w R p n c xs at_ m L kd inside err) := by
  have hlt := hr.lt
  have hl := h.len
  have hlb := lenC_bd (xs.drop at_) (rng_drop h.rng at_)
  rw [hL] at hlb
  obtain ⟨hd, hv, hd0, hd1, e0, e1, e2⟩ := four xs h.rng at_ (by omega)
  rw [hL] at e2
  have hx0 := rng_getD h.rng at_
  have hx1 := rng_getD h.rng (at_ + 1)
  have hand := and16 hd hd0 (by omega)
  rw [e2] at hand
  have HN := hidden (fun a => (num_four p n c xs ((w.alloc (.cells #[.int .i64 0, .bool false, .slice none 0 0] 82)).drewN a) ((h.alloc _).keep (fun _ _ h => h)) at_ (by omega) hd hv).mono (R' := fun e w' => e = .returned (.tuple #[.int .u64 hd, .bool true]) ∧ w' = ((w.alloc (.cells #[.int .i64 0, .bool false, .slice none 0 0] 82)).drewN a)) (fun e w' ⟨h1, h2⟩ => ⟨h1, h2.symm⟩))
  have hw4 : IntKind.i64.wrap ((at_ : Int) + 4) = (at_ : Int) + 4 := wraps_i64 _ (by omega) (by omega)
  have hwl : IntKind.i64.wrap (L - 4) = L - 4 := by rw [IntKind.wrap_i64]; omega
  have HS := hidden (fun w (h : Byt w p n c xs) => slice_good p n c xs w h (by omega) at_ m ha L hm)
  have HX := hidden h
  have HR := hidden hr
  have HP := hidden (show ∀ (e : Ending) (w' : World), (∃ q d, e = .returned (.tuple #[.agg #[.int .i64 kd, .bool (decide (128 ≤ xs.getD (at_ + 1) 0)), .slice q m d], .int .i64 0]) ∧ Bod w' w.heap.size q m d ((xs.drop (at_ + 4)).take m) ∧
    Rdr w' R p n c ((at_ : Int) + L) (if lastK kd then 0 else xs.getD at_ 0) (if lastK kd then xs.getD at_ 0 else inside) err ∧ w.grownBy w' (some R)) → PayOk w R p n c xs at_ m L kd inside err e w' from fun _ _ h => h)
  have HW := hidden (fun w => wraps_any kd w)
  have hat : (at_ : Int) + L ≤ 140737488351232 := by omega
  obtain ⟨c0, c1, c2, c3, c4, fr⟩ := hr
  have hR : R ≠ w.heap.size := by omega
  clear h hl hL hv e2 hm
  generalize xs.getD at_ 0 = x0 at *
  generalize xs.getD (at_ + 1) 0 = x1 at *
  have hbit := bit7 x0 x1 hx0 hx1
  generalize hBX : (xs.drop (at_ + 4)).take m = bs at *
  clear hBX
  go_enter Tryz.func52, Tryz.ntmps52
  go_wp2
  go_quiet ((go_at_call 51; (with_reducible exact Calls.quiet_of_same (HN.out _))))
  go_wp2
  obtain ⟨w1, hw1⟩ : ∃ v, v = (w.alloc (.cells #[.int .i64 0, .bool false, .slice none 0 0] 82)).drewN nq := ⟨_, rfl⟩
  rw [← hw1]
  have hb1 : Below w.heap.size w w1 := by rw [hw1]; exact below_drewN_ ((Below.refl _ w).alloc (Nat.le_refl _) _) _
  have hz1 : RawBox w1 w.heap.size := by rw [hw1]; exact (RawBox.new w 0 false none 0 0 82).below (drew_below ⟨_, rfl⟩)
  have hr1 := HR.out.below hb1 hlt
  have hx1 := HX.out.below hb1
  have hxd : Byt w1.drew p n c xs := hx1.keep (fun _ _ h => h)
  have HXD := hidden hxd
  have HB1 := hidden hb1
  have HZ1 := hidden hz1
  have hg1 : w.heap.size < w1.heap.size := by
    obtain ⟨_, _, _, _, _, h, _⟩ := hz1.ex
    exact World.block_lt_of_cell? w1 _ h
  have HR1 := hidden hr1
  clear hw1 hb1 hz1 hx1 hxd c0 c1 c2 c3 c4 fr HX HN HR
  obtain ⟨c0, c1, c2, c3, c4, fr⟩ := hr1
  go_region_with (go_at_call 69; (with_reducible refine (HS.out _ HXD.out).mono ?_); rintro e w3 ⟨q, d, rfl, hbod, hb3⟩)
  all_goals
    have hs1 := HB1.out.size
    have hb3' := HB1.out.drew.trans (hb3.mono (by exact hs1))
    have hz3 := (HZ1.out.below (drew_below ⟨1, rfl⟩)).below hb3
    have hr3 := (HR1.out.below (drew_below (B := R + 1) ⟨1, rfl⟩) (by omega)).below hb3 HR1.out.lt
    have HB3 := hidden hb3'
    have HBO := hidden (hbod.mono (show w.heap.size + 1 ≤ w1.drew.heap.size from hg1))
    have HR3 := hidden hr3
    obtain ⟨⟨k, cc, pp, nn, mm, z0, z1, z2⟩, zf⟩ := hz3
    have hg3 := World.block_lt_of_cell? w3 _ z0
    have hR3 := hr3.lt
    clear hb3 hb3' hbod c0 c1 c2 c3 c4 fr HR1 HZ1 HB1 HXD HS
    obtain ⟨c0, c1, c2, c3, c4, fr⟩ := hr3
    clear hw4 hwl
    have HG3 := hidden (grown_of_below HB3.out (some R))
    have hcasts : R < w.heap.size := hlt
    rcases hlk : lastK kd with _ | _
    all_goals
      rw [hlk] at HW HP
      go_wp2_with (go_at_call 66; (with_reducible refine (HW.out _).mono ?_); rintro e w' ⟨rfl, rfl⟩)
      refine ret_raw2 (g := w.heap.size) (k := kd) (c := decide (128 ≤ x1)) (p := q) (n := m) (m := d) rfl rfl rfl rfl ⟨by go_simp, by go_simp, by go_simp⟩ ?_
      refine HP.out _ _ ⟨q, d, rfl, Bod.mono (base := w.heap.size + 1) ?_ (by omega), ⟨by go_simp, by go_simp, by first | (go_simp; done) | (go_simp; rw [World.cell?_setCell_same' _ _ _ (by go_simp; done)]), by go_simp, by go_simp, fun j => by go_simp⟩, ?_⟩
      · repeat' (first | with_reducible exact HBO.out | (with_reducible refine Bod.alloc ?_ _) | (with_reducible refine Bod.set_low ?_ _ _ _ (by omega)))
      · repeat' (first | with_reducible exact HG3.out | (with_reducible refine grown_alloc_new ?_ _) | (with_reducible refine grown_set_R ?_ _ _) | (with_reducible refine grown_set_new ?_ _ _ _ (Nat.le_refl _)))
end Go.Proofs.YtkniifopfgeopaaGreat

namespace Go.Proofs.YtkniifopfgeopaaGreat
open Go.RowKit
set_option linter.unusedVariables false

/-- The result of a function that returns bytes, and writes nothing but the choices. -/
def Made (W w : World) (k : Nat) (e : Ending) (w' : World) : Prop := ∃ p n c ys, e = .returned (.slice p n c) ∧ Byt w' p n c ys ∧ n ≤ 9001 ∧ Cod W w' k ∧ w.grownBy w' (some k)

/-- The same, with where the bytes lie. -/
def MadeB (W w : World) (k N : Nat) (e : Ending) (w' : World) : Prop := ∃ p n c ys, e = .returned (.slice p n c) ∧ Bod w' w.heap.size p n c ys ∧ n ≤ N + 1 ∧ Cod W w' k ∧ w.grownBy w' (some k)
theorem Bod.front {w : World} {base : Nat} {p : Option Addr} {n c : Nat} {xs : List Int} (h : Bod w base p n c xs) (j : Nat) (hj : j ≤ n) : Bod w base p j c (xs.take j) := ⟨h.byt.front j hj, fun h0 => h.own (by omega)⟩

theorem or_byte_i64 (v x : Int) (h0 : 0 ≤ v) (h1 : v < 256) (h2 : 0 ≤ x) (h3 : x < 256) : bits .or .i64 (v * 256) x = v * 256 + x :=
  bits_join .i64 63 (by decide) wraps_i64 8 _ _ (by omega) (by omega) (by omega) h2 (by omega) (by omega)

set_option maxHeartbeats 1600000 in
theorem change_bod (W w : World) (k : Nat) (h : Cod W w k) (p : Option Addr) (n c : Nat) (xs : List Int) (hx : Byt w p n c xs) (hn : n ≤ 9000) :
    Calls Tryz.prog 11 #[.pointer (some ⟨k, 0, none⟩), .slice p n c] w (MadeB W w k n) := by
  obtain ⟨i0, hi, hz0, hz1, hz2⟩ := info_parts Tryz.infoByte
  have hk := h.lt
  have hbase := h.base
  have H := hidden h
  have HX := hidden hx
  clear h hx
  go_enter Tryz.func11, Tryz.ntmps11
  go_wp2_with (at_builtin; refine wpList_append_byt _ rfl _ _ 22 rfl w.heap.size 5 i0 (.int .u8 0) Tryz.underlying22 hi hz0 hz1 hz2 rfl _ _ rfl (Own.nil w w.heap.size 5) _ _ _ _ _ rfl HX.out rfl ?c1 (Nat.le_refl _) ?_)
  case c1 => first | omega | (simp; omega)
  intro v w1 hown hg
  have hl := HX.out.len
  have hcod := H.out.grown hg (by simp [Value.ownBlock]) (by simp [Value.ownBlock])
  have HG := hidden (grown_own (grown_refl w (some k)) hg (by simp [Value.ownBlock]))
  have HC := hidden hcod
  have HO := hidden hown
  clear hg hcod hown H
  go_wp2_with (go_at_call 18; refine (next_any W _ k HC.out _ ?_).mono ?_; omega)
  rintro e w2 ⟨r, rfl, r0, r1, hc, hg⟩
  have HO2 := hidden (show Own w2 w.heap.size 5 v xs from World.ownsRow.kept HO.out hg (by
    rcases hv : v.ownBlock with _ | b
    · exact Or.inl rfl
    · have := (HO.out.lt b hv).1
      exact Or.inr (by simp; omega)))
  have HC2 := hidden hc
  have HG2 := hidden (grown_trans HG.out hg)
  clear hg hc HO HC HG
  by_cases h0 : r = 0
  · subst h0
    go_wp2_with (first | (go_at_call 18; refine (next_any W _ k HC2.out _ ?_).mono ?_; omega))
    rintro e w3 ⟨x, rfl, x0, x1, hc, hg⟩
    have HO3 := hidden (show Own w3 w.heap.size 5 v xs from World.ownsRow.kept HO2.out hg (by
      rcases hv : v.ownBlock with _ | b
      · exact Or.inl rfl
      · have := (HO2.out.lt b hv).1
        exact Or.inr (by simp; omega)))
    have HC3 := hidden hc
    have HG3 := hidden (grown_trans HG2.out hg)
    clear hg hc HO2 HC2 HG2
    go_wp2_with (at_builtin; go_loud (refine wpList_append_byt _ rfl _ _ 22 rfl w.heap.size 5 i0 (.int .u8 0) Tryz.underlying22 hi hz0 hz1 hz2 rfl _ _ rfl (HO3.out.alloc _) _ _ _ _ _ rfl (one_byte _ _ x ?c0 ?c1) rfl ?c2 ?c3 ?_))
    case c0 => omega
    case c1 => rw [World.cell?_alloc_at _ _ _ _ rfl]; rfl
    case c2 => omega
    case c3 => have := HG3.out.size; simp; omega
    intro u w4 hown hg
    have HC4 := hidden ((HC3.out.alloc _).grown hg (fun e => by have := (HO3.out.lt k e.symm).1; omega) (fun j hj => by have := (HO3.out.lt j hj).1; omega))
    have HG4 := hidden (grown_own (grown_alloc_new HG3.out _) hg (fun j hj => (HO3.out.lt j hj).1))
    obtain ⟨p', c', rfl, hb⟩ := Own.bod hown rfl (rng_append HX.out.rng (by intro z hz; simp at hz; omega))
    have HB := hidden hb
    clear hg hown hb HC3 HG3 HO3
    go_wp2
    go_ret
    exact ⟨_, _, _, _, rfl, HB.out, by first | omega | (simp; omega), HC4.out, HG4.out⟩
  have e0 : (r == 0) = false := by simpa using h0
  by_cases h1 : r = 1
  · subst h1
    obtain ⟨p', c', rfl, hb⟩ := HO2.out.byt HX.out.rng
    rw [hl] at hb
    have hcap := hb.cap
    have hbig := hb.big
    unfold maxLen at hbig
    clear hb
    rw [hl] at HO2 ⊢
    go_wp2_with (first | (go_at_call 18; refine (next_any W _ k HC2.out _ ?_).mono ?_; omega))
    rintro e w3 ⟨x, rfl, x0, x1, hc, hg⟩
    obtain ⟨x, rfl⟩ := Int.eq_ofNat_of_zero_le x0
    obtain ⟨y, hy⟩ : ∃ y, y = n * x := ⟨_, rfl⟩
    have hm : (n : Int) * (x : Int) = (y : Int) := by rw [hy]; simp
    have hy8 : y ≤ n * 8 := by rw [hy]; exact Nat.mul_le_mul_left _ (by omega)
    have hq : y / 9 ≤ n := by omega
    have HO3 := hidden (show Own w3 w.heap.size 5 (.slice p' n c') xs from World.ownsRow.kept HO2.out hg (by
      rcases hv : (Value.slice p' n c').ownBlock with _ | b
      · exact Or.inl rfl
      · have := (HO2.out.lt b hv).1
        exact Or.inr (by simp; omega)))
    obtain ⟨_, _, he, hb⟩ := HO3.out.bod hl HX.out.rng
    simp at he
    obtain ⟨rfl, rfl⟩ := he
    have HB4 := hidden (hb.front (y / 9) hq)
    have HC3 := hidden hc
    have HG3 := hidden (grown_trans HG2.out hg)
    clear hg hc hb HC2 HG2 HO2 HO3 hl hy HX
    go_wp2
    go_ret
    exact ⟨_, _, _, _, rfl, HB4.out, by omega, HC3.out, HG3.out⟩
  have e1 : (r == 1) = false := by simpa using h1
  rcases Nat.eq_zero_or_pos n with hz | hp
  · obtain ⟨p', c', rfl, hb⟩ := HO2.out.bod hl HX.out.rng
    have HB := hidden hb
    clear hb HO2
    subst hz
    clear hl HX hn
    go_wp2
    go_ret
    exact ⟨_, _, _, _, rfl, HB.out, by omega, HC2.out, HG2.out⟩
  obtain ⟨g, c', rfl, hg0, hg1, hcell, hfr⟩ := HO2.out.at_ hl hp
  have hcap : n ≤ c' := by
    obtain ⟨_, _, he, hb⟩ := HO2.out.byt HX.out.rng
    rw [hl] at hb he
    simp at he
    rw [he.2]
    exact hb.cap
  go_wp2_with (first | (go_at_call 18; refine (next_any W _ k HC2.out _ ?_).mono ?_; omega))
  rintro e w3 ⟨x, rfl, x0, x1, hc, hg⟩
  have HC3 := hidden hc
  have HG3 := hidden (grown_trans HG2.out hg)
  have HO3 := hidden (show Own w3 w.heap.size 5 (.slice (some ⟨g, 0, none⟩) n c') xs from World.ownsRow.kept HO2.out hg (Or.inr (by simp [Value.ownBlock]; omega)))
  clear hg hc HC2 HG2 HO2 hcell hfr
  go_wp2_with (first | (go_at_call 18; refine (next_any W _ k HC3.out _ ?_).mono ?_; omega))
  rintro e w4 ⟨y, rfl, y0, y1, hc, hg⟩
  have HC4 := hidden hc
  have HG4 := hidden (grown_trans HG3.out hg)
  have HO4 := hidden (show Own w4 w.heap.size 5 (.slice (some ⟨g, 0, none⟩) n c') xs from World.ownsRow.kept HO3.out hg (Or.inr (by simp [Value.ownBlock]; omega)))
  clear hg hc HC3 HG3 HO3
  have hor := or_byte_i64 x y x0 x1 y0 y1
  obtain ⟨i, hi⟩ := Int.eq_ofNat_of_zero_le (show 0 ≤ (x * 256 + y).tmod n by rw [Int.tmod_eq_emod_of_nonneg (by omega)]; exact Int.emod_nonneg _ (by omega))
  have hin : i < n := by
    have := Int.tmod_lt_of_pos (x * 256 + y) (show (0 : Int) < n by omega)
    omega
  obtain ⟨_, _, he, _, _, hcell, hfr⟩ := HO4.out.at_ hl hp
  simp at he
  obtain ⟨rfl, rfl⟩ := he
  have hc4 := hcell i hin
  have hf4 := hfr i
  have hz := rng_getD HX.out.rng i
  generalize xs.getD i 0 = z at hc4 hz
  clear hcell hfr
  go_wp2
  have hgk : g ≠ k := by omega
  have hgs : g < w4.heap.size := World.block_lt_of_cell? w4 _ hc4
  have HK := hidden (fun (w5 : World) (hg5 : w4.drew.grownBy w5 (some k)) => (show w5.cell? ⟨g, i, none⟩ = some (.int .u8 z) ∧ w5.frozen? ⟨g, i, none⟩ = false from
    ⟨hg5.cell (show w4.drew.cell? ⟨g, i, none⟩ = some (.int .u8 z) from hc4) (by simp; exact hgk), (World.frozen?_of_block (a := ⟨g, i, none⟩) (hg5.block g hgs (by simp; exact hgk))).trans hf4⟩))
  have HCD := hidden (show Cod W w4.drew k from HC4.out.below (drew_below ⟨1, rfl⟩))
  have hcd : w4.drew.cell? ⟨g, i, none⟩ = some (.int .u8 z) := hc4
  have hfd : w4.drew.frozen? ⟨g, i, none⟩ = false := hf4
  go_region_with (go_at_call 18; (with_reducible refine (next_any W _ k HCD.out _ ?_).mono ?_); omega; rintro e w5 ⟨t, rfl, t0, t1, hc5, hg5⟩; have hc6 := (HK.out _ hg5).1; have hf6 := (HK.out _ hg5).2)
  all_goals
    have HO5 := hidden (show Own w5 w.heap.size 5 (.slice (some ⟨g, 0, none⟩) n c') xs from World.ownsRow.kept (HO4.out.drew) hg5 (Or.inr (by simp [Value.ownBlock]; omega)))
    have HC5 := hidden hc5
    have HG5 := hidden (grown_trans (show w.grownBy w4.drew (some k) from grown_trans HG4.out (grown_drewN w4 1 _)) hg5)
    clear hg5 hc5 HC4 HG4 HK HO4 HCD
    go_wp2
    go_ret
    obtain ⟨_, _, he, hb⟩ := Own.bod (n := n) (HO5.out.set hl i (bits BinOp.xor IntKind.u8 z (IntKind.u8.wrap (IntKind.i64.wrap (1 + t))))) ((List.length_set ..).trans hl) (rng_set HX.out.rng i ⟨bits_lo_u8 _ _ _, bits_hi_u8 _ _ _⟩)
    simp at he
    obtain ⟨rfl, rfl⟩ := he
    exact ⟨_, _, _, _, rfl, hb, by omega, HC5.out.set _ _ _ (by omega) hgk, grown_set_new HG5.out _ _ _ hg0⟩
end Go.Proofs.YtkniifopfgeopaaGreat
