/-
  Package payload's reader of plain data.
  What package selector's readOne returns, for any bytes.
  Package payload's reader of proposals.
  Reply: the notification of every error, on both sides.
  What header.Build returns: the 28 bytes of a header, or the first error.
  What the reader of chains returns for the next payload, and how it goes on.
  What the document's own Parse of chains returns: the payloads in any bytes, or the first error.
-/
import Derived.Test.YtnbkffehhahckaaGreatJZ5
import Derived.Test.YtnbkffehhahckaaGreatJZ19
import Derived.Test.YtnbkffehhahckaaGreatJZ1
import Derived.Test.YtnbkffehhahckaaGreatJZ15
import Derived.Test.YtnbkffehhahckaaGreatJZ2
import Derived.Test.YtnbkffehhahckaaGreatJNum
import Derived.Test.YtnbkffehhahckaaGreatJZ6
import Derived.Test.YtnbkffehhahckaaGreatJZ3
import Derived.Test.YtnbkffehhahckaaGreatJZ0
import Derived.Laws.Bits64b
import Derived.Deep.RegionWith
namespace Go.Proofs.YtnbkffehhahckaaGreat
open Go.RowKit
set_option linter.unusedVariables false
set_option maxHeartbeats 800000 in
set_option maxRecDepth 100000 in
theorem data_read (p : Option Addr) (n c : Nat) (xs : List Int) (w : World) (h : Byt w p n c xs) (hb : n ≤ 140737488355328) :
    Calls Tryz.prog 82 #[.slice p n c] w (ReadPv w 0 fun w' x => FrV w' w.heap.size x.da xs) := by
  have hn := h.le
  have H1 := hidden (h.alloc (.cells #[.int .i64 0, .slice none 0 0, .int .i64 0, .slice none 0 0, .int .i64 0, .slice none 0 0, .int .i64 0, .slice none 0 0, .int .i64 0, .slice none 0 0, .int .i64 0, .slice none 0 0, .int .i64 0, .slice none 0 0, .slice none 0 0, .slice none 0 0] 56))
  have HB := hidden ((Below.refl w.heap.size w).alloc (Nat.le_refl _) (.cells #[.int .i64 0, .slice none 0 0, .int .i64 0, .slice none 0 0, .int .i64 0, .slice none 0 0, .int .i64 0, .slice none 0 0, .int .i64 0, .slice none 0 0, .int .i64 0, .slice none 0 0, .int .i64 0, .slice none 0 0, .slice none 0 0, .slice none 0 0] 56))
  have HZ : Hid (PvIn (w.alloc (.cells #[.int .i64 0, .slice none 0 0, .int .i64 0, .slice none 0 0, .int .i64 0, .slice none 0 0, .int .i64 0, .slice none 0 0, .int .i64 0, .slice none 0 0, .int .i64 0, .slice none 0 0, .int .i64 0, .slice none 0 0, .slice none 0 0, .slice none 0 0] 56)) w.heap.size zeroP) := hidden (PvIn.new w zeroP 56)
  have HL := hidden h.len
  have HR := hidden h.rng
  clear h
  go_enter Tryz.func82, Tryz.ntmps82
  go_wp2_with (first
    | (go_at_call 103; (with_reducible refine (cloneB_any _ _ _ _ _ H1.out hb).mono ?_); rintro e w2 ⟨v2, rfl, ho, hbc⟩; obtain ⟨q2, d2, rfl, hf0⟩ := ho.frs HL.out HR.out; have HF0 := hidden hf0; have HB2 := hidden (HB.out.trans (hbc.mono HB.out.size)); have HZ2 := hidden (HZ.out.below hbc); obtain ⟨z0, z1, z2, z3, z4, z5, z6, z7, z8, z9, z10, z11, z12, z13, z14, z15, zf⟩ := HZ2.out; clear ho hbc hf0)
    | fail)
  have hlo := setPv_grown w2 w.heap.size ⟨0, nilV, 0, nilV, 0, nilV, 0, nilV, 0, nilV, 0, nilV, 0, nilV, nilV, ⟨q2, n, d2⟩⟩
  have hz := setPv_in HZ2.out ⟨0, nilV, 0, nilV, 0, nilV, 0, nilV, 0, nilV, 0, nilV, 0, nilV, nilV, ⟨q2, n, d2⟩⟩
  have hfl := (HF0.out.low hlo (by simp)).mono (show w.heap.size ≤ _ from HB.out.size)
  have HBS := hidden (HB2.out.grown hlo HB2.out.size (fun j hj => by cases hj; exact Nat.le_refl _))
  simp only [setPv, nilV] at hz hfl HBS
  have HZZ := hidden hz
  have HFF := hidden hfl
  clear hz hfl hlo
  refine ret_pv (g := w.heap.size) rfl rfl rfl rfl HZZ.out ?_
  exact ⟨_, rfl, HBS.out, fun _ => HFF.out⟩
end Go.Proofs.YtnbkffehhahckaaGreat

namespace Go.Proofs.YtnbkffehhahckaaGreat
open Go.RowKit
set_option linter.unusedVariables false
theorem ret_sl3 {fn : Func} {R : Ending → World → Prop} {a : Act} {w : World} {p x y : Nat} {g : Nat} {s : Sl} {u v : Value} (h : fn.results = #[.cell p 113, .tmp x, .tmp y]) (hp : a.tmps.getD p undef = .pointer (some ⟨g, 0, none⟩)) (hu : a.tmps.getD x undef = u) (hv : a.tmps.getD y undef = v) (hd : a.defers = [])
    (hh : SlIn w g s) (hR : R (.returned (.tuple #[(.agg #[.int .i64 s.p, .int .i64 s.a, .int .i64 s.b, .int .i64 s.lo.f, .int .u64 s.lo.h, .int .u64 s.lo.l, .int .i64 s.hi.f, .int .u64 s.hi.h, .int .u64 s.hi.l]), u, v])) w) : bodyPost Tryz.prog fn R .ret a w := by
  refine bodyPost_ret (v := .tuple #[(.agg #[.int .i64 s.p, .int .i64 s.a, .int .i64 s.b, .int .i64 s.lo.f, .int .u64 s.lo.h, .int .u64 s.lo.l, .int .i64 s.hi.f, .int .u64 s.hi.h, .int .u64 s.hi.l]), u, v]) ?_ hd hR
  rw [Array.getD_eq_getD_getElem?] at hp hu hv
  simp [results, h, hp, hu, hv, asAddr, load_sl hh, Result.andThen]
theorem put_lohi {w : World} {B M R : Nat} {m r : Sl} (hr : SlIn w R r) (hne : R ≠ M) (h1 : B ≤ M) (h2 : B ≤ R) (z1 z2 : Ad) : SlIn (((((((((((((((w.setCell ⟨M, 3, none⟩ (.int .i64 z1.f)).setCell ⟨M, 4, none⟩ (.int .u64 z1.h)).setCell ⟨M, 5, none⟩ (.int .u64 z1.l)).setCell ⟨M, 6, none⟩ (.int .i64 z2.f)).setCell ⟨M, 7, none⟩ (.int .u64 z2.h)).setCell ⟨M, 8, none⟩ (.int .u64 z2.l)).setCell ⟨R, 0, none⟩ (.int .i64 m.p)).setCell ⟨R, 1, none⟩ (.int .i64 m.a)).setCell ⟨R, 2, none⟩ (.int .i64 m.b)).setCell ⟨R, 3, none⟩ (.int .i64 z1.f)).setCell ⟨R, 4, none⟩ (.int .u64 z1.h)).setCell ⟨R, 5, none⟩ (.int .u64 z1.l)).setCell ⟨R, 6, none⟩ (.int .i64 z2.f)).setCell ⟨R, 7, none⟩ (.int .u64 z2.h)).setCell ⟨R, 8, none⟩ (.int .u64 z2.l)) R { m with lo := z1, hi := z2 } ∧ (∀ W : World, W.heap.size = B → Below B W w → Below B W (((((((((((((((w.setCell ⟨M, 3, none⟩ (.int .i64 z1.f)).setCell ⟨M, 4, none⟩ (.int .u64 z1.h)).setCell ⟨M, 5, none⟩ (.int .u64 z1.l)).setCell ⟨M, 6, none⟩ (.int .i64 z2.f)).setCell ⟨M, 7, none⟩ (.int .u64 z2.h)).setCell ⟨M, 8, none⟩ (.int .u64 z2.l)).setCell ⟨R, 0, none⟩ (.int .i64 m.p)).setCell ⟨R, 1, none⟩ (.int .i64 m.a)).setCell ⟨R, 2, none⟩ (.int .i64 m.b)).setCell ⟨R, 3, none⟩ (.int .i64 z1.f)).setCell ⟨R, 4, none⟩ (.int .u64 z1.h)).setCell ⟨R, 5, none⟩ (.int .u64 z1.l)).setCell ⟨R, 6, none⟩ (.int .i64 z2.f)).setCell ⟨R, 7, none⟩ (.int .u64 z2.h)).setCell ⟨R, 8, none⟩ (.int .u64 z2.l))) :=
  ⟨((((((hr.set_ne _ _ _ hne).set_ne _ _ _ hne).set_ne _ _ _ hne).set_ne _ _ _ hne).set_ne _ _ _ hne).set_ne _ _ _ hne).setAll { m with lo := z1, hi := z2 }, fun W hW hb => (((((((((((((((hb.setCell (p := ⟨M, 3, none⟩) (by simp <;> omega) _).setCell (p := ⟨M, 4, none⟩) (by simp <;> omega) _).setCell (p := ⟨M, 5, none⟩) (by simp <;> omega) _).setCell (p := ⟨M, 6, none⟩) (by simp <;> omega) _).setCell (p := ⟨M, 7, none⟩) (by simp <;> omega) _).setCell (p := ⟨M, 8, none⟩) (by simp <;> omega) _).setCell (p := ⟨R, 0, none⟩) (by simp <;> omega) _).setCell (p := ⟨R, 1, none⟩) (by simp <;> omega) _).setCell (p := ⟨R, 2, none⟩) (by simp <;> omega) _).setCell (p := ⟨R, 3, none⟩) (by simp <;> omega) _).setCell (p := ⟨R, 4, none⟩) (by simp <;> omega) _).setCell (p := ⟨R, 5, none⟩) (by simp <;> omega) _).setCell (p := ⟨R, 6, none⟩) (by simp <;> omega) _).setCell (p := ⟨R, 7, none⟩) (by simp <;> omega) _).setCell (p := ⟨R, 8, none⟩) (by simp <;> omega) _)⟩
def ReadS (w : World) (r : Option (Sl × Nat)) (e : Ending) (w' : World) : Prop := Below w.heap.size w w' ∧ match r with
  | none => e = .returned (.tuple #[(.agg #[.int .i64 zeroS.p, .int .i64 zeroS.a, .int .i64 zeroS.b, .int .i64 zeroS.lo.f, .int .u64 zeroS.lo.h, .int .u64 zeroS.lo.l, .int .i64 zeroS.hi.f, .int .u64 zeroS.hi.h, .int .u64 zeroS.hi.l]), .int .i64 0, .bool false])
  | some (s, k) => e = .returned (.tuple #[(.agg #[.int .i64 s.p, .int .i64 s.a, .int .i64 s.b, .int .i64 s.lo.f, .int .u64 s.lo.h, .int .u64 s.lo.l, .int .i64 s.hi.f, .int .u64 s.hi.h, .int .u64 s.hi.l]), .int .i64 k, .bool true])
set_option maxHeartbeats 1600000 in
set_option maxRecDepth 100000 in
theorem readOne_any (p : Option Addr) (n c : Nat) (xs : List Int) (w : World) (h : Byt w p n c xs) (r : Option (Sl × Nat)) (hr : oneS xs = r) :
    Calls Tryz.prog 123 #[.slice p n c] w (ReadS w r) := by
  obtain ⟨K, hK⟩ : ∃ K, (numR xs 0 1).1 = K := ⟨_, rfl⟩
  obtain ⟨Z, hZ⟩ : ∃ Z, (numR xs 2 2).1 = Z := ⟨_, rfl⟩
  have hone := oneS_num xs K Z hK hZ
  rw [hr, h.len] at hone
  have hn := h.le
  have HL := hidden h.len
  have HXX := hidden (h.alloc (.cells #[.int .i64 0, .int .i64 0, .int .i64 0, .int .i64 0, .int .u64 0, .int .u64 0, .int .i64 0, .int .u64 0, .int .u64 0] 113))
  have HRZ := hidden (SlIn.new w zeroS 113)
  have HBZ := hidden ((Below.refl w.heap.size w).alloc (Nat.le_refl _) (.cells #[.int .i64 0, .int .i64 0, .int .i64 0, .int .i64 0, .int .u64 0, .int .u64 0, .int .i64 0, .int .u64 0, .int .u64 0] 113))
  have HN01 := hidden (fun w h => snum_any p n c xs w h 0 1 (by omega) (by omega) K hK)
  have HN22 := hidden (fun w h => snum_any p n c xs w h 2 2 (by omega) (by omega) Z hZ)
  clear hK hZ hr
  have hcs : (K = 7 ∧ Z = 16 ∧ 16 ≤ n ∧ r = some (⟨nAt xs 1 1, nAt xs 4 2, nAt xs 6 2, ⟨4, 0, nAt xs 8 4⟩, ⟨4, 0, nAt xs 12 4⟩⟩, 16)) ∨
      (K = 8 ∧ Z = 40 ∧ 40 ≤ n ∧ r = some (⟨nAt xs 1 1, nAt xs 4 2, nAt xs 6 2, ⟨6, nAt xs 8 8, nAt xs 16 8⟩, ⟨6, nAt xs 24 8, nAt xs 32 8⟩⟩, 40)) ∨
      (K = 7 ∧ Z = 16 ∧ n < 16 ∧ r = none) ∨ (K = 8 ∧ Z = 40 ∧ n < 40 ∧ r = none) ∨ (K = 7 ∧ (Z == 16) = false ∧ r = none) ∨ (K = 8 ∧ (Z == 40) = false ∧ r = none) ∨ ((K == 7) = false ∧ (K == 8) = false ∧ r = none) := by
    by_cases h7 : K = 7
    · by_cases h16 : Z = 16
      · by_cases hn16 : 16 ≤ n
        · rw [if_pos ⟨h7, h16, hn16⟩] at hone
          exact Or.inl ⟨h7, h16, hn16, hone⟩
        · rw [if_neg (by omega), if_neg (by omega)] at hone
          exact Or.inr (Or.inr (Or.inl ⟨h7, h16, by omega, hone⟩))
      · rw [if_neg (by omega), if_neg (by omega)] at hone
        exact Or.inr (Or.inr (Or.inr (Or.inr (Or.inl ⟨h7, by simpa using h16, hone⟩))))
    · by_cases h8 : K = 8
      · by_cases h40 : Z = 40
        · by_cases hn40 : 40 ≤ n
          · rw [if_neg (by omega), if_pos ⟨h8, h40, hn40⟩] at hone
            exact Or.inr (Or.inl ⟨h8, h40, hn40, hone⟩)
          · rw [if_neg (by omega), if_neg (by omega)] at hone
            exact Or.inr (Or.inr (Or.inr (Or.inl ⟨h8, h40, by omega, hone⟩)))
        · rw [if_neg (by omega), if_neg (by omega)] at hone
          exact Or.inr (Or.inr (Or.inr (Or.inr (Or.inr (Or.inl ⟨h8, by simpa using h40, hone⟩)))))
      · rw [if_neg (by omega), if_neg (by omega)] at hone
        exact Or.inr (Or.inr (Or.inr (Or.inr (Or.inr (Or.inr ⟨by simpa using h7, by simpa using h8, hone⟩)))))
  clear hone
  rcases hcs with ⟨rfl, rfl, hN, hO⟩ | ⟨rfl, rfl, hN, hO⟩ | ⟨rfl, rfl, hN, hO⟩ | ⟨rfl, rfl, hN, hO⟩ | ⟨rfl, hN, hO⟩ | ⟨rfl, hN, hO⟩ | ⟨hN, hN2, hO⟩
  all_goals have HO := hidden hO
  all_goals clear hO
  · have HM0 : Hid (SlIn ((w.alloc (.cells #[.int .i64 0, .int .i64 0, .int .i64 0, .int .i64 0, .int .u64 0, .int .u64 0, .int .i64 0, .int .u64 0, .int .u64 0] 113)).alloc (.cells #[.int .i64 (nAt xs 1 1), .int .i64 (nAt xs 4 2), .int .i64 (nAt xs 6 2), .int .i64 0, .int .u64 0, .int .u64 0, .int .i64 0, .int .u64 0, .int .u64 0] 113)) (w.heap.size + 1) ⟨nAt xs 1 1, nAt xs 4 2, nAt xs 6 2, zeroA, zeroA⟩) := hidden (by
      have := SlIn.new (w.alloc (.cells #[.int .i64 0, .int .i64 0, .int .i64 0, .int .i64 0, .int .u64 0, .int .u64 0, .int .i64 0, .int .u64 0, .int .u64 0] 113)) ⟨nAt xs 1 1, nAt xs 4 2, nAt xs 6 2, zeroA, zeroA⟩ 113
      simpa [zeroA] using this)
    have HR0 := hidden ((SlIn.new w zeroS 113).alloc (.cells #[.int .i64 (nAt xs 1 1), .int .i64 (nAt xs 4 2), .int .i64 (nAt xs 6 2), .int .i64 0, .int .u64 0, .int .u64 0, .int .i64 0, .int .u64 0, .int .u64 0] 113))
    have HB0 := hidden (below_two (w := w) (.cells #[.int .i64 0, .int .i64 0, .int .i64 0, .int .i64 0, .int .u64 0, .int .u64 0, .int .i64 0, .int .u64 0, .int .u64 0] 113) (.cells #[.int .i64 (nAt xs 1 1), .int .i64 (nAt xs 4 2), .int .i64 (nAt xs 6 2), .int .i64 0, .int .u64 0, .int .u64 0, .int .i64 0, .int .u64 0, .int .u64 0] 113))
    have HS1X := hidden (HXX.out.alloc (.cells #[.int .i64 (nAt xs 1 1), .int .i64 (nAt xs 4 2), .int .i64 (nAt xs 6 2), .int .i64 0, .int .u64 0, .int .u64 0, .int .i64 0, .int .u64 0, .int .u64 0] 113))
    have HN11 := hidden (fun w h => snum_any p n c xs w h 1 1 (by omega) (by omega) (nAt xs 1 1) (by have := numR_in xs 1 1 (by omega) (by omega) (by rw [HL.out]; omega); rw [show ((1 : Nat) : Int) = 1 from rfl] at this; rw [this]))
    have HN42 := hidden (fun w h => snum_any p n c xs w h 4 2 (by omega) (by omega) (nAt xs 4 2) (by have := numR_in xs 4 2 (by omega) (by omega) (by rw [HL.out]; omega); rw [show ((4 : Nat) : Int) = 4 from rfl, show ((2 : Nat) : Int) = 2 from rfl] at this; rw [this]))
    have HN62 := hidden (fun w h => snum_any p n c xs w h 6 2 (by omega) (by omega) (nAt xs 6 2) (by have := numR_in xs 6 2 (by omega) (by omega) (by rw [HL.out]; omega); rw [show ((6 : Nat) : Int) = 6 from rfl, show ((2 : Nat) : Int) = 2 from rfl] at this; rw [this]))
    clear h
    go_enter Tryz.func123, Tryz.ntmps123
    go_wp2_with (first
      | (go_at_call 129; (with_reducible refine (HN01.out _ HXX.out).mono ?_); rintro e w' ⟨rfl, rfl⟩)
      | (go_at_call 129; (with_reducible refine (HN22.out _ HXX.out).mono ?_); rintro e w' ⟨rfl, rfl⟩)
      | (go_at_call 129; (with_reducible refine (HN11.out _ HXX.out).mono ?_); rintro e w' ⟨rfl, rfl⟩)
      | (go_at_call 129; (with_reducible refine (HN42.out _ HXX.out).mono ?_); rintro e w' ⟨rfl, rfl⟩)
      | (go_at_call 129; (with_reducible refine (HN62.out _ HXX.out).mono ?_); rintro e w' ⟨rfl, rfl⟩)
      | (go_at_call 130; (with_reducible refine (read4_any p n c xs _ HS1X.out 8 8 rfl (by omega)).mono ?_); rintro e w1 ⟨rfl, hb⟩; have HM1 := hidden (HM0.out.below hb); have HR1 := hidden (HR0.out.below hb); have HX1 := hidden (HS1X.out.below hb); have HB1 := hidden (HB0.out.trans (hb.mono HB0.out.size)); clear hb)
      | (go_at_call 130; (with_reducible refine (read4_any p n c xs _ HX1.out 12 12 rfl (by omega)).mono ?_); rintro e w2 ⟨rfl, hb⟩; have HM2 := hidden (HM1.out.below hb); have HR2 := hidden (HR1.out.below hb); have HB2 := hidden (HB1.out.trans (hb.mono HB1.out.size)); obtain ⟨m0, m1, m2, m3, m4, m5, m6, m7, m8, mf⟩ := HM2.out; obtain ⟨r0, r1, r2, r3, r4, r5, r6, r7, r8, rf⟩ := HR2.out; clear hb)
      | fail)
    obtain ⟨z1, z2⟩ := put_lohi (B := w.heap.size) (m := ⟨nAt xs 1 1, nAt xs 4 2, nAt xs 6 2, zeroA, zeroA⟩) HR2.out (show w.heap.size ≠ w.heap.size + 1 by omega) (by omega) (Nat.le_refl _) ⟨4, 0, nAt xs 8 4⟩ ⟨4, 0, nAt xs 12 4⟩
    refine ret_sl3 (g := w.heap.size) (s := ⟨nAt xs 1 1, nAt xs 4 2, nAt xs 6 2, ⟨4, 0, nAt xs 8 4⟩, ⟨4, 0, nAt xs 12 4⟩⟩) (u := .int .i64 16) (v := .bool true) rfl rfl rfl rfl rfl z1 ?_
    refine ⟨z2 w rfl HB2.out, ?_⟩
    rw [HO.out]
    rfl
  · have HM0 : Hid (SlIn ((w.alloc (.cells #[.int .i64 0, .int .i64 0, .int .i64 0, .int .i64 0, .int .u64 0, .int .u64 0, .int .i64 0, .int .u64 0, .int .u64 0] 113)).alloc (.cells #[.int .i64 (nAt xs 1 1), .int .i64 (nAt xs 4 2), .int .i64 (nAt xs 6 2), .int .i64 0, .int .u64 0, .int .u64 0, .int .i64 0, .int .u64 0, .int .u64 0] 113)) (w.heap.size + 1) ⟨nAt xs 1 1, nAt xs 4 2, nAt xs 6 2, zeroA, zeroA⟩) := hidden (by
      have := SlIn.new (w.alloc (.cells #[.int .i64 0, .int .i64 0, .int .i64 0, .int .i64 0, .int .u64 0, .int .u64 0, .int .i64 0, .int .u64 0, .int .u64 0] 113)) ⟨nAt xs 1 1, nAt xs 4 2, nAt xs 6 2, zeroA, zeroA⟩ 113
      simpa [zeroA] using this)
    have HR0 := hidden ((SlIn.new w zeroS 113).alloc (.cells #[.int .i64 (nAt xs 1 1), .int .i64 (nAt xs 4 2), .int .i64 (nAt xs 6 2), .int .i64 0, .int .u64 0, .int .u64 0, .int .i64 0, .int .u64 0, .int .u64 0] 113))
    have HB0 := hidden (below_two (w := w) (.cells #[.int .i64 0, .int .i64 0, .int .i64 0, .int .i64 0, .int .u64 0, .int .u64 0, .int .i64 0, .int .u64 0, .int .u64 0] 113) (.cells #[.int .i64 (nAt xs 1 1), .int .i64 (nAt xs 4 2), .int .i64 (nAt xs 6 2), .int .i64 0, .int .u64 0, .int .u64 0, .int .i64 0, .int .u64 0, .int .u64 0] 113))
    have HS1X := hidden (HXX.out.alloc (.cells #[.int .i64 (nAt xs 1 1), .int .i64 (nAt xs 4 2), .int .i64 (nAt xs 6 2), .int .i64 0, .int .u64 0, .int .u64 0, .int .i64 0, .int .u64 0, .int .u64 0] 113))
    have HN11 := hidden (fun w h => snum_any p n c xs w h 1 1 (by omega) (by omega) (nAt xs 1 1) (by have := numR_in xs 1 1 (by omega) (by omega) (by rw [HL.out]; omega); rw [show ((1 : Nat) : Int) = 1 from rfl] at this; rw [this]))
    have HN42 := hidden (fun w h => snum_any p n c xs w h 4 2 (by omega) (by omega) (nAt xs 4 2) (by have := numR_in xs 4 2 (by omega) (by omega) (by rw [HL.out]; omega); rw [show ((4 : Nat) : Int) = 4 from rfl, show ((2 : Nat) : Int) = 2 from rfl] at this; rw [this]))
    have HN62 := hidden (fun w h => snum_any p n c xs w h 6 2 (by omega) (by omega) (nAt xs 6 2) (by have := numR_in xs 6 2 (by omega) (by omega) (by rw [HL.out]; omega); rw [show ((6 : Nat) : Int) = 6 from rfl, show ((2 : Nat) : Int) = 2 from rfl] at this; rw [this]))
    clear h
    go_enter Tryz.func123, Tryz.ntmps123
    go_wp2_with (first
      | (go_at_call 129; (with_reducible refine (HN01.out _ HXX.out).mono ?_); rintro e w' ⟨rfl, rfl⟩)
      | (go_at_call 129; (with_reducible refine (HN22.out _ HXX.out).mono ?_); rintro e w' ⟨rfl, rfl⟩)
      | (go_at_call 129; (with_reducible refine (HN11.out _ HXX.out).mono ?_); rintro e w' ⟨rfl, rfl⟩)
      | (go_at_call 129; (with_reducible refine (HN42.out _ HXX.out).mono ?_); rintro e w' ⟨rfl, rfl⟩)
      | (go_at_call 129; (with_reducible refine (HN62.out _ HXX.out).mono ?_); rintro e w' ⟨rfl, rfl⟩)
      | (go_at_call 131; (with_reducible refine (read6_any p n c xs _ HS1X.out 8 8 rfl (by omega)).mono ?_); rintro e w1 ⟨rfl, hb⟩; have HM1 := hidden (HM0.out.below hb); have HR1 := hidden (HR0.out.below hb); have HX1 := hidden (HS1X.out.below hb); have HB1 := hidden (HB0.out.trans (hb.mono HB0.out.size)); clear hb)
      | (go_at_call 131; (with_reducible refine (read6_any p n c xs _ HX1.out 24 24 rfl (by omega)).mono ?_); rintro e w2 ⟨rfl, hb⟩; have HM2 := hidden (HM1.out.below hb); have HR2 := hidden (HR1.out.below hb); have HB2 := hidden (HB1.out.trans (hb.mono HB1.out.size)); obtain ⟨m0, m1, m2, m3, m4, m5, m6, m7, m8, mf⟩ := HM2.out; obtain ⟨r0, r1, r2, r3, r4, r5, r6, r7, r8, rf⟩ := HR2.out; clear hb)
      | fail)
    obtain ⟨z1, z2⟩ := put_lohi (B := w.heap.size) (m := ⟨nAt xs 1 1, nAt xs 4 2, nAt xs 6 2, zeroA, zeroA⟩) HR2.out (show w.heap.size ≠ w.heap.size + 1 by omega) (by omega) (Nat.le_refl _) ⟨6, nAt xs 8 8, nAt xs 16 8⟩ ⟨6, nAt xs 24 8, nAt xs 32 8⟩
    refine ret_sl3 (g := w.heap.size) (s := ⟨nAt xs 1 1, nAt xs 4 2, nAt xs 6 2, ⟨6, nAt xs 8 8, nAt xs 16 8⟩, ⟨6, nAt xs 24 8, nAt xs 32 8⟩⟩) (u := .int .i64 40) (v := .bool true) rfl rfl rfl rfl rfl z1 ?_
    refine ⟨z2 w rfl HB2.out, ?_⟩
    rw [HO.out]
    rfl
  all_goals
    obtain ⟨r0, r1, r2, r3, r4, r5, r6, r7, r8, rf⟩ := HRZ.out
    clear h
    go_enter Tryz.func123, Tryz.ntmps123
    go_wp2_with (first
      | (go_at_call 129; (with_reducible refine (HN01.out _ HXX.out).mono ?_); rintro e w' ⟨rfl, rfl⟩)
      | (go_at_call 129; (with_reducible refine (HN22.out _ HXX.out).mono ?_); rintro e w' ⟨rfl, rfl⟩)
      | fail)
    refine ret_sl3 (g := w.heap.size) (s := zeroS) (u := .int .i64 0) (v := .bool false) rfl rfl rfl rfl rfl HRZ.out ?_
    refine ⟨HBZ.out, ?_⟩
    rw [HO.out]
end Go.Proofs.YtnbkffehhahckaaGreat

namespace Go.Proofs.YtnbkffehhahckaaGreat
open Go.RowKit
set_option linter.unusedVariables false
set_option maxHeartbeats 800000 in
set_option maxRecDepth 100000 in
theorem proposals_read (p : Option Addr) (n c : Nat) (xs : List Int) (w : World) (h : Byt w p n c xs) (hn : n ≤ 1048576) (r : List Pr × Int) (hr : parseP xs = r) :
    Calls Tryz.prog 74 #[.slice p n c] w (ReadPv w r.2 fun w' x => ∃ ls : List PrP, ls.map PrP.pr = r.1 ∧ RowG KPr NPr w' w.heap.size (.slice x.pr.p x.pr.n x.pr.c) ls ∧ ls.length = x.pr.n) := by
  have HB := hidden ((Below.refl w.heap.size w).alloc (Nat.le_refl _) (.cells #[.int .i64 0, .slice none 0 0, .int .i64 0, .slice none 0 0, .int .i64 0, .slice none 0 0, .int .i64 0, .slice none 0 0, .int .i64 0, .slice none 0 0, .int .i64 0, .slice none 0 0, .int .i64 0, .slice none 0 0, .slice none 0 0, .slice none 0 0] 56))
  have HZ : Hid (PvIn (w.alloc (.cells #[.int .i64 0, .slice none 0 0, .int .i64 0, .slice none 0 0, .int .i64 0, .slice none 0 0, .int .i64 0, .slice none 0 0, .int .i64 0, .slice none 0 0, .int .i64 0, .slice none 0 0, .int .i64 0, .slice none 0 0, .slice none 0 0, .slice none 0 0] 56)) w.heap.size zeroP) := hidden (PvIn.new w zeroP 56)
  have HP := hidden (pparse_any p n c xs _ (h.alloc (.cells #[.int .i64 0, .slice none 0 0, .int .i64 0, .slice none 0 0, .int .i64 0, .slice none 0 0, .int .i64 0, .slice none 0 0, .int .i64 0, .slice none 0 0, .int .i64 0, .slice none 0 0, .int .i64 0, .slice none 0 0, .slice none 0 0, .slice none 0 0] 56)) hn r hr)
  clear h
  go_enter Tryz.func74, Tryz.ntmps74
  go_wp2_with (first
    | (go_at_call 100; (with_reducible refine (HP.out).mono ?_); rintro e w2 ⟨v2, ls, rfl, hls, hrow, hbc⟩; obtain ⟨q2, d2, rfl⟩ := hrow.form rfl; have HR2 := hidden hrow; have HB2 := hidden (HB.out.trans (hbc.mono HB.out.size)); have HLS := hidden hls; have HZ2 := hidden (HZ.out.below hbc); obtain ⟨z0, z1, z2, z3, z4, z5, z6, z7, z8, z9, z10, z11, z12, z13, z14, z15, zf⟩ := HZ2.out; clear hrow hbc hls)
    | fail)
  have hlo := setPv_grown w2 w.heap.size ⟨0, ⟨q2, ls.length, d2⟩, 0, nilV, 0, nilV, 0, nilV, 0, nilV, 0, nilV, 0, nilV, nilV, nilV⟩
  have hz := setPv_in HZ2.out ⟨0, ⟨q2, ls.length, d2⟩, 0, nilV, 0, nilV, 0, nilV, 0, nilV, 0, nilV, 0, nilV, nilV, nilV⟩
  have hfl := (HR2.out.low hlo (by simp)).mono (show w.heap.size ≤ _ from HB.out.size)
  have HBS := hidden (HB2.out.grown hlo HB2.out.size (fun j hj => by cases hj; exact Nat.le_refl _))
  simp only [setPv, nilV] at hz hfl HBS
  have HZZ := hidden hz
  have HFF := hidden hfl
  clear hz hfl hlo
  refine ret_pv (g := w.heap.size) rfl rfl rfl rfl HZZ.out ?_
  exact ⟨_, rfl, HBS.out, fun _ => ⟨ls, HLS.out, HFF.out, rfl⟩⟩
end Go.Proofs.YtnbkffehhahckaaGreat

namespace Go.Proofs.YtnbkffehhahckaaGreat
open Go.RowKit
set_option linter.unusedVariables false
def replyN (e : Int) : Int :=
  if e = 3 then 5 else if e = 6 then 1 else if e = 20 then 4 else if e = 16 then 14 else if e = 13 then 17 else if e = 17 then 38 else if e = 18 ∨ e = 19 then 24 else if e = 25 then 35 else if e = 21 then 43
  else if e = 1 ∨ e = 2 ∨ e = 4 ∨ e = 5 ∨ e = 7 ∨ e = 8 ∨ e = 9 ∨ e = 10 ∨ e = 11 ∨ e = 15 then 7 else 0
def Rpl (e : Int) : Prop := e = 3 ∨ e = 6 ∨ e = 20 ∨ e = 16 ∨ e = 13 ∨ e = 17 ∨ e = 18 ∨ e = 19 ∨ e = 25 ∨ e = 21 ∨ e = 1 ∨ e = 2 ∨ e = 4 ∨ e = 5 ∨ e = 7 ∨ e = 8 ∨ e = 9 ∨ e = 10 ∨ e = 11 ∨ e = 15
instance (e : Int) : Decidable (Rpl e) := by unfold Rpl; infer_instance
end Go.Proofs.YtnbkffehhahckaaGreat

namespace Go.Proofs.YtnbkffehhahckaaGreat
open Go.RowKit
set_option linter.unusedVariables false
def hdrL (i r n x f m len : Int) : List Int := be 8 i ++ (be 8 r ++ ([n % 256, 32, x % 256, f % 256] ++ (be 4 m ++ be 4 len)))
def buildR (i r n x f m len : Int) : List Int × Int :=
  if checkR i r n x f m ≠ 0 then ([], checkR i r n x f m) else if len < 28 ∨ 8192 < len then ([], 5) else (hdrL i r n x f m len, 0)
theorem be_one (v : Int) : be 1 v = [v % 256] := by simp [be]
theorem Own.mono1 {w : World} {B B' : Nat} {e : TypeId} {v : Value} {xs : List Int} (h : Own w B e v xs) (hB : B' ≤ B) : Own w B' e v xs := by
  refine ⟨h.1, ?_⟩
  rcases h.2 with h | ⟨g, cap, cur, hv, hg, r⟩
  · exact Or.inl h
  · exact Or.inr ⟨g, cap, cur, hv, Nat.le_trans hB hg, r⟩
def Next1 (w : World) (n : Nat) (xs : List Int) (e : Ending) (w' : World) : Prop := ∃ p c, e = .returned (.slice p n c) ∧ Byt w' p n c xs ∧ Own w' w.heap.size 5 (.slice p n c) xs ∧ Below w.heap.size w w'
theorem Byt.made (w : World) (xs : List Int) (T : TypeId) (hr : ∀ x ∈ xs, 0 ≤ x ∧ x ≤ 255) (hl : xs.length ≤ 1000) : Byt (w.alloc (.cells (xs.map (Value.int .u8)).toArray T)) (some ⟨w.heap.size, 0, none⟩) xs.length xs.length xs := by
  refine ⟨rfl, Nat.le_refl _, by unfold maxLen; omega, hr, fun hp => ⟨_, _, rfl, fun i hi => ?_⟩⟩
  rw [World.cell?_alloc_at _ _ _ _ rfl]
  simp [List.getD_eq_getElem?_getD, List.getElem?_eq_getElem hi]
theorem put_next (p : Option Addr) (n c k N : Nat) (xs : List Int) (v : Int) (w : World) (h : Byt w p n c xs) (hn : n ≤ 100) (hv : 0 ≤ v ∧ v ≤ 18446744073709551615) (hk : 1 ≤ k ∧ k ≤ 8) (hN : n + k = N) :
    Calls Tryz.prog 34 #[.slice p n c, .int .u64 v, .int .i64 k] w (Next1 w N (xs ++ be k v)) := by
  refine (put_yes p n c xs w h (by omega) v hv k hk.1 hk.2).mono ?_
  rintro e w' ⟨u, rfl, ho, hb⟩
  have hl : (xs ++ be k v).length = N := by rw [List.length_append, be_len, h.len, hN]
  obtain ⟨p', c', rfl, hy⟩ := ho.bytN rfl hl (rng_append h.rng (be_rng _ _))
  exact ⟨p', c', rfl, hy, ho, hb⟩
def Built (w : World) (xs : List Int) (E : Int) (e : Ending) (w' : World) : Prop := ∃ p n c, e = .returned (.tuple #[.slice p n c, .int .i64 E]) ∧ Byt w' p n c xs ∧ Own w' w.heap.size 5 (.slice p n c) xs ∧ Below w.heap.size w w'
set_option maxHeartbeats 1600000 in
theorem build_any (i r n x f m len : Int) (w : World) (hi : 0 ≤ i ∧ i ≤ 18446744073709551615) (hr : 0 ≤ r ∧ r ≤ 18446744073709551615) (hm : 0 ≤ m ∧ m ≤ 4294967295) (hlen : -9223372036854775808 ≤ len ∧ len ≤ 9223372036854775807) :
    Calls Tryz.prog 17 #[.agg #[.int .u64 i, .int .u64 r, .int .i64 n, .int .i64 x, .int .i64 f, .int .u32 m], .int .i64 len] w (Built w (buildR i r n x f m len).1 (buildR i r n x f m len).2) := by
  have HB0 := hidden ((Below.refl w.heap.size w).alloc (Nat.le_refl _) (.cells #[.int .u64 i, .int .u64 r, .int .i64 n, .int .i64 x, .int .i64 f, .int .u32 m] 27))
  have HN0 := hidden (HdrIn.new w i r n x f m 27)
  have HC := hidden (fun w => hcheck_any i r n x f m w)
  have hs0 : w.heap.size + 1 ≤ (w.alloc (.cells #[.int .u64 i, .int .u64 r, .int .i64 n, .int .i64 x, .int .i64 f, .int .u32 m] 27)).heap.size := by simp
  have HS0 := hidden hs0
  clear hs0
  rcases hz : checkR i r n x f m with z
  by_cases hz0 : z = 0
  case neg =>
    rw [buildR, if_pos (by rw [hz]; exact hz0), hz]
    rw [hz] at HC
    have hzb : (z != 0) = true := by simpa using hz0
    clear hz
    go_enter Tryz.func17, Tryz.ntmps17
    go_wp2_with (go_at_call 16; (with_reducible refine (HC.out _).mono ?_))
    rintro e w1 ⟨rfl, hb⟩
    have HB1 := hidden (HB0.out.trans (hb.mono HB0.out.size))
    clear hb
    go_wp2
    go_ret2
    exact ⟨none, 0, 0, rfl, Byt.nil _ _ _ (Nat.zero_le _), Own.nil _ _ _, HB1.out⟩
  subst hz0
  by_cases hl : len < 28 ∨ 8192 < len
  · rw [buildR, if_neg (by rw [hz]; simp), if_pos hl]
    rw [hz] at HC
    clear hz
    go_enter Tryz.func17, Tryz.ntmps17
    go_wp2_with (go_at_call 16; (with_reducible refine (HC.out _).mono ?_))
    rintro e w1 ⟨rfl, hb⟩
    have HB1 := hidden (HB0.out.trans (hb.mono HB0.out.size))
    clear hb
    go_wp2
    all_goals first | (exfalso; omega) | (go_ret2; exact ⟨none, 0, 0, rfl, Byt.nil _ _ _ (Nat.zero_le _), Own.nil _ _ _, HB1.out⟩)
  rw [buildR, if_neg (by rw [hz]; simp), if_neg hl]
  have hl1 : 28 ≤ len := by omega
  have hl2 : len ≤ 8192 := by omega
  clear hl
  rw [hz] at HC
  clear hz
  go_enter Tryz.func17, Tryz.ntmps17
  go_wp2_with (go_at_call 16; (with_reducible refine (HC.out _).mono ?_))
  rintro e w1 ⟨rfl, hb⟩
  have HB1 := hidden (HB0.out.trans (hb.mono HB0.out.size))
  have HN1 := hidden (HN0.out.below hb)
  clear hb HC HB0 HN0
  have HY1 := hidden (Byt.nil w1 none 0 (Nat.zero_le _))
  obtain ⟨c0, c1, c2, c3, c4, c5, cf⟩ := HN1.out
  go_wp2_with (go_at_call 34; (refine (put_next none 0 0 8 8 [] i _ HY1.out (by omega) hi (by omega) rfl).mono ?_))
  rintro e w2 ⟨p2, c2c, rfl, hy, ho, hb⟩
  have HB2 := hidden (HB1.out.trans (hb.mono HB1.out.size))
  have HN2 := hidden (HN1.out.below hb)
  obtain ⟨xs2, he2⟩ : ∃ v, v = [] ++ be 8 i := ⟨_, rfl⟩
  rw [← he2] at hy
  have HE2 := hidden he2
  have HY2 := hidden hy
  clear hb hy ho he2 c0 c1 c2 c3 c4 c5 cf HB1 HN1 HY1
  obtain ⟨c0, c1, c2, c3, c4, c5, cf⟩ := HN2.out
  go_wp2_with (go_at_call 34; (refine (put_next p2 8 c2c 8 16 xs2 r _ HY2.out (by omega) hr (by omega) rfl).mono ?_))
  rintro e w3 ⟨p3, c3c, rfl, hy, ho, hb⟩
  have HB3 := hidden (HB2.out.trans (hb.mono HB2.out.size))
  have HN3 := hidden (HN2.out.below hb)
  obtain ⟨xs3, he3⟩ : ∃ v, v = xs2 ++ be 8 r := ⟨_, rfl⟩
  rw [← he3] at hy
  have HE3 := hidden he3
  have HY3 := hidden hy
  clear hb hy ho he3 c0 c1 c2 c3 c4 c5 cf HB2 HN2 HY2
  obtain ⟨c0, c1, c2, c3, c4, c5, cf⟩ := HN3.out
  go_wp2_with (go_at_call 34; (refine (put_next p3 16 c3c 1 17 xs3 (IntKind.u64.wrap n) _ HY3.out (by omega) (by rw [IntKind.wrap_u64]; omega) (by omega) rfl).mono ?_))
  rintro e w4 ⟨p4, c4c, rfl, hy, ho, hb⟩
  have HB4 := hidden (HB3.out.trans (hb.mono HB3.out.size))
  have HN4 := hidden (HN3.out.below hb)
  obtain ⟨xs4, he4⟩ : ∃ v, v = xs3 ++ be 1 (IntKind.u64.wrap n) := ⟨_, rfl⟩
  rw [← he4] at hy
  have HE4 := hidden he4
  have HY4 := hidden hy
  clear hb hy ho he4 c0 c1 c2 c3 c4 c5 cf HB3 HN3 HY3
  obtain ⟨c0, c1, c2, c3, c4, c5, cf⟩ := HN4.out
  go_wp2_with (go_at_call 34; (refine (put_next p4 17 c4c 1 18 xs4 32 _ HY4.out (by omega) (by omega) (by omega) rfl).mono ?_))
  rintro e w5 ⟨p5, c5c, rfl, hy, ho, hb⟩
  have HB5 := hidden (HB4.out.trans (hb.mono HB4.out.size))
  have HN5 := hidden (HN4.out.below hb)
  obtain ⟨xs5, he5⟩ : ∃ v, v = xs4 ++ be 1 32 := ⟨_, rfl⟩
  rw [← he5] at hy
  have HE5 := hidden he5
  have HY5 := hidden hy
  clear hb hy ho he5 c0 c1 c2 c3 c4 c5 cf HB4 HN4 HY4
  obtain ⟨c0, c1, c2, c3, c4, c5, cf⟩ := HN5.out
  go_wp2_with (go_at_call 34; (refine (put_next p5 18 c5c 1 19 xs5 (IntKind.u64.wrap x) _ HY5.out (by omega) (by rw [IntKind.wrap_u64]; omega) (by omega) rfl).mono ?_))
  rintro e w6 ⟨p6, c6c, rfl, hy, ho, hb⟩
  have HB6 := hidden (HB5.out.trans (hb.mono HB5.out.size))
  have HN6 := hidden (HN5.out.below hb)
  obtain ⟨xs6, he6⟩ : ∃ v, v = xs5 ++ be 1 (IntKind.u64.wrap x) := ⟨_, rfl⟩
  rw [← he6] at hy
  have HE6 := hidden he6
  have HY6 := hidden hy
  clear hb hy ho he6 c0 c1 c2 c3 c4 c5 cf HB5 HN5 HY5
  obtain ⟨c0, c1, c2, c3, c4, c5, cf⟩ := HN6.out
  go_wp2_with (go_at_call 34; (refine (put_next p6 19 c6c 1 20 xs6 (IntKind.u64.wrap f) _ HY6.out (by omega) (by rw [IntKind.wrap_u64]; omega) (by omega) rfl).mono ?_))
  rintro e w7 ⟨p7, c7c, rfl, hy, ho, hb⟩
  have HB7 := hidden (HB6.out.trans (hb.mono HB6.out.size))
  have HN7 := hidden (HN6.out.below hb)
  obtain ⟨xs7, he7⟩ : ∃ v, v = xs6 ++ be 1 (IntKind.u64.wrap f) := ⟨_, rfl⟩
  rw [← he7] at hy
  have HE7 := hidden he7
  have HY7 := hidden hy
  clear hb hy ho he7 c0 c1 c2 c3 c4 c5 cf HB6 HN6 HY6
  obtain ⟨c0, c1, c2, c3, c4, c5, cf⟩ := HN7.out
  go_wp2_with (go_at_call 34; (refine (put_next p7 20 c7c 4 24 xs7 m _ HY7.out (by omega) (by omega) (by omega) rfl).mono ?_))
  rintro e w8 ⟨p8, c8c, rfl, hy, ho, hb⟩
  have HB8 := hidden (HB7.out.trans (hb.mono HB7.out.size))
  have HN8 := hidden (HN7.out.below hb)
  obtain ⟨xs8, he8⟩ : ∃ v, v = xs7 ++ be 4 m := ⟨_, rfl⟩
  rw [← he8] at hy
  have HE8 := hidden he8
  have HY8 := hidden hy
  clear hb hy ho he8 c0 c1 c2 c3 c4 c5 cf HB7 HN7 HY7
  obtain ⟨c0, c1, c2, c3, c4, c5, cf⟩ := HN8.out
  go_wp2_with (go_at_call 34; (refine (put_next p8 24 c8c 4 28 xs8 len _ HY8.out (by omega) (by omega) (by omega) rfl).mono ?_))
  rintro e w9 ⟨p9, c9c, rfl, hy, ho, hb⟩
  have HB9 := hidden (HB8.out.trans (hb.mono HB8.out.size))
  have HO := hidden (ho.mono1 HB8.out.size)
  have HY := hidden hy
  clear hb hy ho c0 c1 c2 c3 c4 c5 cf HB8 HN8 HY8
  go_wp2
  go_ret2
  have hfin : xs8 ++ be 4 len = hdrL i r n x f m len := by
    rw [HE8.out, HE7.out, HE6.out, HE5.out, HE4.out, HE3.out, HE2.out]
    simp only [hdrL, List.nil_append, List.append_assoc, be_one]
    simp only [IntKind.wrap_u64, List.cons_append, List.nil_append]
    rw [show n % 18446744073709551616 % 256 = n % 256 by omega, show x % 18446744073709551616 % 256 = x % 256 by omega, show f % 18446744073709551616 % 256 = f % 256 by omega]
    rfl
  exact ⟨_, _, _, rfl, by rw [← hfin]; exact HY.out, by rw [← hfin]; exact HO.out, HB9.out⟩
end Go.Proofs.YtnbkffehhahckaaGreat

namespace Go.Proofs.YtnbkffehhahckaaGreat
open Go.RowKit
set_option linter.unusedVariables false
structure RawIn (w : World) (g : Nat) (k : Int) (c : Bool) (p : Option Addr) (n m : Nat) : Prop where
  c0 : w.cell? ⟨g, 0, none⟩ = some (.int .i64 k)
  c1 : w.cell? ⟨g, 1, none⟩ = some (.bool c)
  c2 : w.cell? ⟨g, 2, none⟩ = some (.slice p n m)
structure RawBox (w : World) (g : Nat) : Prop where
  ex : ∃ k c p n m, w.cell? ⟨g, 0, none⟩ = some (.int .i64 k) ∧ w.cell? ⟨g, 1, none⟩ = some (.bool c) ∧ w.cell? ⟨g, 2, none⟩ = some (.slice p n m)
  fr : ∀ j, w.frozen? ⟨g, j, none⟩ = false
theorem RawBox.grown {w w' : World} {g : Nat} {row : Option Nat} (h : RawBox w g) (hg : w.grownBy w' row) (hne : some g ≠ row) : RawBox w' g := by
  obtain ⟨⟨k, c, p, n, m, h0, h1, h2⟩, hf⟩ := h
  exact ⟨⟨k, c, p, n, m, hg.cell h0 hne, hg.cell h1 hne, hg.cell h2 hne⟩, fun j => (World.frozen?_of_block (a := ⟨g, j, none⟩) (hg.block g (World.block_lt_of_cell? w _ h0) hne)).trans (hf j)⟩
theorem RawBox.below {w w' : World} {g : Nat} (h : RawBox w g) (hb : Below w.heap.size w w') : RawBox w' g := h.grown (row := none) ⟨hb.os, hb.tape, hb.output, hb.size, fun i hi _ => hb.block i hi⟩ (by simp)
theorem RawBox.new (w : World) (k : Int) (c : Bool) (p : Option Addr) (n m : Nat) (T : TypeId) : RawBox (w.alloc (.cells #[.int .i64 k, .bool c, .slice p n m] T)) w.heap.size :=
  ⟨⟨k, c, p, n, m, by go_simp, by go_simp, by go_simp⟩, fun j => by go_simp⟩
theorem load_raw {w : World} {g : Nat} {k : Int} {c : Bool} {p : Option Addr} {n m : Nat} (h : RawIn w g k c p n m) : (loadVar 85 ⟨g, 0, none⟩).run Tryz.prog w = .ok (.agg #[.int .i64 k, .bool c, .slice p n m]) w := by
  obtain ⟨c0, c1, c2⟩ := h
  simp [loadVar, go_sem, c0, c1, c2, Result.andThen]
theorem ret_raw2 {fn : Func} {R : Ending → World → Prop} {a : Act} {w : World} {b u : Nat} {g : Nat} {k : Int} {c : Bool} {p : Option Addr} {n m : Nat} {v : Value} (h : fn.results = #[.cell b 85, .tmp u]) (hp : a.tmps.getD b undef = .pointer (some ⟨g, 0, none⟩)) (hu : a.tmps.getD u undef = v) (hd : a.defers = [])
    (hh : RawIn w g k c p n m) (hR : R (.returned (.tuple #[.agg #[.int .i64 k, .bool c, .slice p n m], v])) w) : bodyPost Tryz.prog fn R .ret a w := by
  refine bodyPost_ret (v := .tuple #[.agg #[.int .i64 k, .bool c, .slice p n m], v]) ?_ hd hR
  rw [results_cell_tmp h]
  simp only [hp]
  simp [Result.andThen, hu, asAddr, load_raw hh]
structure Rdr (w : World) (R : Nat) (p : Option Addr) (n c : Nat) (at_ next inside err : Int) : Prop where
  c0 : w.cell? ⟨R, 0, none⟩ = some (.slice p n c)
  c1 : w.cell? ⟨R, 1, none⟩ = some (.int .i64 at_)
  c2 : w.cell? ⟨R, 2, none⟩ = some (.int .i64 next)
  c3 : w.cell? ⟨R, 3, none⟩ = some (.int .i64 inside)
  c4 : w.cell? ⟨R, 4, none⟩ = some (.int .i64 err)
  fr : ∀ j, w.frozen? ⟨R, j, none⟩ = false
theorem Rdr.lt {w : World} {R : Nat} {p : Option Addr} {n c : Nat} {at_ next inside err : Int} (h : Rdr w R p n c at_ next inside err) : R < w.heap.size := World.block_lt_of_cell? w _ h.c0
theorem Rdr.grown {w w' : World} {R : Nat} {p : Option Addr} {n c : Nat} {at_ next inside err : Int} {row : Option Nat} (h : Rdr w R p n c at_ next inside err) (hg : w.grownBy w' row) (hne : some R ≠ row) : Rdr w' R p n c at_ next inside err :=
  ⟨hg.cell h.c0 hne, hg.cell h.c1 hne, hg.cell h.c2 hne, hg.cell h.c3 hne, hg.cell h.c4 hne, fun j => (World.frozen?_of_block (a := ⟨R, j, none⟩) (hg.block R h.lt hne)).trans (h.fr j)⟩
theorem Rdr.below {w w' : World} {R : Nat} {p : Option Addr} {n c : Nat} {at_ next inside err : Int} {B : Nat} (h : Rdr w R p n c at_ next inside err) (hb : Below B w w') (hR : R < B) : Rdr w' R p n c at_ next inside err :=
  have hc : ∀ a : Addr, a.block = R → w'.cell? a = w.cell? a := fun a ha => hb.cell (by rw [ha]; exact hR)
  ⟨(hc _ rfl).trans h.c0, (hc _ rfl).trans h.c1, (hc _ rfl).trans h.c2, (hc _ rfl).trans h.c3, (hc _ rfl).trans h.c4, fun j => (World.frozen?_of_block (a := ⟨R, j, none⟩) (hb.block R hR)).trans (h.fr j)⟩
theorem four (xs : List Int) (hr : ∀ x ∈ xs, 0 ≤ x ∧ x ≤ 255) (a : Nat) (h : a + 4 ≤ xs.length) :
    ∃ hd : Int, val ((xs.drop a).take 4) = hd ∧ 0 ≤ hd ∧ hd < 4294967296 ∧ hd / 16777216 = xs.getD a 0 ∧ hd / 65536 = xs.getD a 0 * 256 + xs.getD (a + 1) 0 ∧ hd % 65536 = lenC (xs.drop a) := by
  have e : (xs.drop a).take 4 = [xs.getD a 0, xs.getD (a + 1) 0, xs.getD (a + 2) 0, xs.getD (a + 3) 0] := by
    rw [List.drop_eq_getElem_cons (by omega), List.take_succ_cons, List.drop_eq_getElem_cons (by omega), List.take_succ_cons, List.drop_eq_getElem_cons (by omega), List.take_succ_cons, List.drop_eq_getElem_cons (by omega), List.take_succ_cons, List.take_zero]
    simp [List.getD_eq_getElem?_getD, List.getElem?_eq_getElem (show a < xs.length by omega), List.getElem?_eq_getElem (show a + 1 < xs.length by omega), List.getElem?_eq_getElem (show a + 2 < xs.length by omega), List.getElem?_eq_getElem (show a + 3 < xs.length by omega)]
  have r0 := rng_getD hr a
  have r1 := rng_getD hr (a + 1)
  have r2 := rng_getD hr (a + 2)
  have r3 := rng_getD hr (a + 3)
  have hl : lenC (xs.drop a) = xs.getD (a + 2) 0 * 256 + xs.getD (a + 3) 0 := by rw [lenC, getD_drop, getD_drop]
  have hv : val [xs.getD a 0, xs.getD (a + 1) 0, xs.getD (a + 2) 0, xs.getD (a + 3) 0] = ((xs.getD a 0 * 256 + xs.getD (a + 1) 0) * 256 + xs.getD (a + 2) 0) * 256 + xs.getD (a + 3) 0 := by simp [val]
  refine ⟨_, rfl, ?_⟩
  rw [e, hv, hl]
  generalize xs.getD a 0 = x0 at *
  generalize xs.getD (a + 1) 0 = x1 at *
  generalize xs.getD (a + 2) 0 = x2 at *
  generalize xs.getD (a + 3) 0 = x3 at *
  refine ⟨by omega, by omega, by omega, by omega, by omega⟩
theorem bit7 (x y : Int) (hx : 0 ≤ x ∧ x ≤ 255) (hy : 0 ≤ y ∧ y ≤ 255) : (bits .and .u64 (x * 256 + y) 128 != 0) = decide (128 ≤ y) := by
  obtain ⟨a, rfl⟩ := Int.eq_ofNat_of_zero_le hx.1
  obtain ⟨b, rfl⟩ := Int.eq_ofNat_of_zero_le hy.1
  have h := bits_and_u64_nat (a * 256 + b) 128 (by omega) (by omega)
  have e : (((a * 256 + b : Nat) : Int)) = (a : Int) * 256 + (b : Int) := by simp
  rw [e] at h
  rw [show ((128 : Nat) : Int) = 128 from rfl] at h
  have h1 : (a * 256 + b) &&& 128 = b &&& 128 := by
    have h2 : ((a * 256 + b) &&& 128) % 2 ^ 8 = ((a * 256 + b) % 2 ^ 8) &&& (128 % 2 ^ 8) := Nat.and_mod_two_pow
    have h3 : (a * 256 + b) &&& 128 ≤ 128 := Nat.and_le_right
    have h4 : (a * 256 + b) % 2 ^ 8 = b := by omega
    rw [h4, show (128 % 2 ^ 8 : Nat) = 128 from rfl] at h2
    omega
  rw [h, h1]
  have : ∀ j : Fin 256, ((((j.val &&& 128 : Nat)) : Int) != 0) = decide (128 ≤ ((j.val : Nat) : Int)) := by decide +kernel
  exact this ⟨b, by omega⟩
theorem grown_set_R {a b : World} {R : Nat} (h : a.grownBy b (some R)) (j : Nat) (v : Value) : a.grownBy (b.setCell ⟨R, j, none⟩ v) (some R) := grown_trans h (grown_set b R j v)
theorem Bod.set_low {w : World} {base : Nat} {p : Option Addr} {n c : Nat} {xs : List Int} (h : Bod w base p n c xs) (g j : Nat) (v : Value) (hg : g < base) : Bod (w.setCell ⟨g, j, none⟩ v) base p n c xs := h.grown (grown_set w g j v) (OffB.low hg)
theorem below_drewN_ {B : Nat} {a w : World} (h : Below B a w) (n : Nat) : Below B a (w.drewN n) := ⟨h.os, h.tape, h.output, h.size, h.block⟩
def PayFail (w : World) (E : Int) (e : Ending) (w' : World) : Prop := e = .returned (.tuple #[.agg #[.int .i64 0, .bool false, .slice none 0 0], .int .i64 E]) ∧ Below w.heap.size w w'
def PayOk (w : World) (R : Nat) (p : Option Addr) (n c : Nat) (xs : List Int) (at_ m : Nat) (L kd inside err : Int) (e : Ending) (w' : World) : Prop :=
  ∃ q d, e = .returned (.tuple #[.agg #[.int .i64 kd, .bool (decide (128 ≤ xs.getD (at_ + 1) 0)), .slice q m d], .int .i64 0]) ∧ Bod w' w.heap.size q m d ((xs.drop (at_ + 4)).take m) ∧
    Rdr w' R p n c ((at_ : Int) + L) (if lastK kd then 0 else xs.getD at_ 0) (if lastK kd then xs.getD at_ 0 else inside) err ∧ w.grownBy w' (some R)
theorem num_short (p : Option Addr) (n c : Nat) (xs : List Int) (w : World) (h : Byt w p n c xs) (a : Nat) (ha : a ≤ n) (hs : n - a < 4) :
    Calls Tryz.prog 54 #[.slice p n c, .int .i64 a, .int .i64 4] w fun e w' => e = .returned (.tuple #[.int .u64 0, .bool false]) ∧ w = w' := by
  have hl := h.len
  have := number_any p n c xs w h a 4 (by have := h.le; omega) (by omega)
  rw [numR, if_neg (by omega)] at this
  exact this
theorem num_four (p : Option Addr) (n c : Nat) (xs : List Int) (w : World) (h : Byt w p n c xs) (a : Nat) (hin : a + 4 ≤ n) (hd : Int) (hv : val ((xs.drop a).take 4) = hd) :
    Calls Tryz.prog 54 #[.slice p n c, .int .i64 a, .int .i64 4] w fun e w' => e = .returned (.tuple #[.int .u64 hd, .bool true]) ∧ w = w' := by
  subst hv
  exact number_yes p n c xs w h a 4 (by omega) (by omega) hin
theorem slice_bad (p : Option Addr) (n c : Nat) (xs : List Int) (w : World) (h : Byt w p n c xs) (hb : n ≤ 140737488355328) (a : Nat) (ha : a + 4 ≤ n) (L : Int) (hL : 0 ≤ L ∧ L ≤ 65535) (hbad : L < 4 ∨ (n : Int) - a < L) :
    Calls Tryz.prog 73 #[.slice p n c, .int .i64 ((a : Int) + 4), .int .i64 (L - 4)] w fun e w' => ∃ q i d, e = .returned (.tuple #[.slice q i d, .bool false]) ∧ Below w.heap.size w w' := by
  have hl := h.len
  refine (slice_bod p n c xs w h hb (a + 4) (L - 4) (by have := h.le; omega) (by omega)).mono fun e w' hh => ?_
  rw [pieceR, if_neg (by omega)] at hh
  obtain ⟨q, i, d, he, _, hb⟩ := hh
  exact ⟨q, i, d, he, hb⟩
theorem slice_good (p : Option Addr) (n c : Nat) (xs : List Int) (w : World) (h : Byt w p n c xs) (hb : n ≤ 140737488355328) (a m : Nat) (ha : a + 4 + m ≤ n) (L : Int) (hL : L - 4 = (m : Int)) :
    Calls Tryz.prog 73 #[.slice p n c, .int .i64 ((a : Int) + 4), .int .i64 (L - 4)] w fun e w' => ∃ q d, e = .returned (.tuple #[.slice q m d, .bool true]) ∧ Bod w' w.heap.size q m d ((xs.drop (a + 4)).take m) ∧ Below w.heap.size w w' := by
  have hl := h.len
  refine (slice_bod p n c xs w h hb (a + 4) (L - 4) (by have := h.le; omega) (by omega)).mono fun e w' hh => ?_
  have hp : pieceR xs ((a : Int) + 4) (L - 4) = ((xs.drop (a + 4)).take m, true) := by
    rw [pieceR, if_pos (by omega), hL]
    simp
    rfl
  rw [hp] at hh
  obtain ⟨q, n', d, he, hbod, hb'⟩ := hh
  obtain rfl : m = n' := by
    have := hbod.byt.len
    simp at this
    omega
  exact ⟨q, d, he, hbod, hb'⟩
set_option maxHeartbeats 1600000 in
theorem pay_short (w : World) (R : Nat) (p : Option Addr) (n c : Nat) (xs : List Int) (h : Byt w p n c xs) (hb : n ≤ 140737488351232) (at_ : Nat) (kd inside err : Int) (hr : Rdr w R p n c at_ kd inside err) (ha : at_ ≤ n) (hs : n - at_ < 4) :
    Calls Tryz.prog 55 #[.pointer (some ⟨R, 0, none⟩)] w (PayFail w 1) := by
  have hlt := hr.lt
  have HN := hidden (fun a => (num_short p n c xs ((w.alloc (.cells #[.int .i64 0, .bool false, .slice none 0 0] 85)).drewN a) ((h.alloc _).keep (fun _ _ h => h)) at_ ha hs).mono (R' := fun e w' => e = .returned (.tuple #[.int .u64 0, .bool false]) ∧ w' = ((w.alloc (.cells #[.int .i64 0, .bool false, .slice none 0 0] 85)).drewN a)) (fun e w' ⟨h1, h2⟩ => ⟨h1, h2.symm⟩))
  obtain ⟨c0, c1, c2, c3, c4, fr⟩ := hr
  have hR : R ≠ w.heap.size := by omega
  clear h
  go_enter Tryz.func55, Tryz.ntmps55
  go_wp2
  go_quiet ((go_at_call 54; (with_reducible exact Calls.quiet_of_same (HN.out _))))
  go_wp2
  refine ret_raw2 (g := w.heap.size) (k := 0) (c := false) (p := none) (n := 0) (m := 0) rfl rfl rfl rfl ⟨by go_simp, by go_simp, by go_simp⟩ ?_
  exact ⟨rfl, by have := Below.refl w.heap.size w; repeat' (first | with_reducible exact this | (with_reducible refine Below.alloc ?_ ?_ _) | (with_reducible refine Below.setCell ?_ ?_ _) | (with_reducible refine below_drewN_ ?_ _) | simp)⟩
set_option maxHeartbeats 1600000 in
theorem pay_wrong (w : World) (R : Nat) (p : Option Addr) (n c : Nat) (xs : List Int) (h : Byt w p n c xs) (hb : n ≤ 140737488351232) (at_ : Nat) (kd inside err : Int) (hr : Rdr w R p n c at_ kd inside err) (ha : at_ + 4 ≤ n) (L : Int) (hL : lenC (xs.drop at_) = L) (hbad : L < 4 ∨ (n : Int) - at_ < L) :
    Calls Tryz.prog 55 #[.pointer (some ⟨R, 0, none⟩)] w (PayFail w 2) := by
  have hlt := hr.lt
  have hl := h.len
  have hlb := lenC_bd (xs.drop at_) (rng_drop h.rng at_)
  rw [hL] at hlb
  obtain ⟨hd, hv, hd0, hd1, e0, e1, e2⟩ := four xs h.rng at_ (by omega)
  rw [hL] at e2
  have hx0 := rng_getD h.rng at_
  have hand := and16 hd hd0 (by omega)
  rw [e2] at hand
  have HN := hidden (fun a => (num_four p n c xs ((w.alloc (.cells #[.int .i64 0, .bool false, .slice none 0 0] 85)).drewN a) ((h.alloc _).keep (fun _ _ h => h)) at_ ha hd hv).mono (R' := fun e w' => e = .returned (.tuple #[.int .u64 hd, .bool true]) ∧ w' = ((w.alloc (.cells #[.int .i64 0, .bool false, .slice none 0 0] 85)).drewN a)) (fun e w' ⟨h1, h2⟩ => ⟨h1, h2.symm⟩))
  have hw4 : IntKind.i64.wrap ((at_ : Int) + 4) = (at_ : Int) + 4 := wraps_i64 _ (by omega) (by omega)
  have hwl : IntKind.i64.wrap (L - 4) = L - 4 := by rw [IntKind.wrap_i64]; omega
  have HS := hidden (fun w (h : Byt w p n c xs) => slice_bad p n c xs w h (by omega) at_ ha L hlb hbad)
  have HX := hidden h
  have HR := hidden hr
  obtain ⟨c0, c1, c2, c3, c4, fr⟩ := hr
  have hR : R ≠ w.heap.size := by omega
  clear h hl hL hv e1 e2 hbad
  generalize xs.getD at_ 0 = x0 at *
  go_enter Tryz.func55, Tryz.ntmps55
  go_wp2
  go_quiet ((go_at_call 54; (with_reducible exact Calls.quiet_of_same (HN.out _))))
  go_wp2
  obtain ⟨w1, hw1⟩ : ∃ v, v = (w.alloc (.cells #[.int .i64 0, .bool false, .slice none 0 0] 85)).drewN nq := ⟨_, rfl⟩
  rw [← hw1]
  have hb1 : Below w.heap.size w w1 := by rw [hw1]; exact below_drewN_ ((Below.refl _ w).alloc (Nat.le_refl _) _) _
  have hz1 : RawBox w1 w.heap.size := by rw [hw1]; exact (RawBox.new w 0 false none 0 0 85).below (drew_below ⟨_, rfl⟩)
  have hr1 := HR.out.below hb1 hlt
  have hx1 := HX.out.below hb1
  have hxd : Byt w1.drew p n c xs := hx1.keep (fun _ _ h => h)
  have HXD := hidden hxd
  have HB1 := hidden hb1
  have HZ1 := hidden hz1
  clear hw1 hb1 hz1 hx1 hxd c0 c1 c2 c3 c4 fr HX HN
  obtain ⟨c0, c1, c2, c3, c4, fr⟩ := hr1
  go_region_with (go_at_call 73; (with_reducible refine (HS.out _ HXD.out).mono ?_); rintro e w3 ⟨q, i, d, rfl, hb3⟩)
  all_goals
    have hb3' := HB1.out.drew.trans (hb3.mono (by have := HB1.out.size; exact this))
    have hz3 := (HZ1.out.below (drew_below ⟨1, rfl⟩)).below hb3
    have HB3 := hidden hb3'
    obtain ⟨⟨k, cc, pp, nn, mm, z0, z1, z2⟩, zf⟩ := hz3
    clear hb3 hb3' c0 c1 c2 c3 c4 fr
    go_wp2
    refine ret_raw2 (g := w.heap.size) (k := 0) (c := false) (p := none) (n := 0) (m := 0) rfl rfl rfl rfl ⟨by go_simp, by go_simp, by go_simp⟩ ?_
    exact ⟨rfl, by have := HB3.out; repeat' (first | with_reducible exact this | (with_reducible refine Below.setCell ?_ ?_ _) | simp)⟩
set_option maxHeartbeats 3200000 in
theorem pay_ok (w : World) (R : Nat) (p : Option Addr) (n c : Nat) (xs : List Int) (h : Byt w p n c xs) (hb : n ≤ 140737488351232) (at_ : Nat) (kd inside err : Int) (hr : Rdr w R p n c at_ kd inside err) (L : Int) (hL : lenC (xs.drop at_) = L) (m : Nat) (hm : L - 4 = (m : Int)) (ha : at_ + 4 + m ≤ n) :
    Calls Tryz.prog 55 #[.pointer (some ⟨R, 0, none⟩)] w (PayOk w R p n c xs at_ m L kd inside err) := by
  have hlt := hr.lt
  have hl := h.len
  have hlb := lenC_bd (xs.drop at_) (rng_drop h.rng at_)
  rw [hL] at hlb
  obtain ⟨hd, hv, hd0, hd1, e0, e1, e2⟩ := four xs h.rng at_ (by omega)
  rw [hL] at e2
  have hx0 := rng_getD h.rng at_
  have hx1 := rng_getD h.rng (at_ + 1)
  have hand := and16 hd hd0 (by omega)
  rw [e2] at hand
  have HN := hidden (fun a => (num_four p n c xs ((w.alloc (.cells #[.int .i64 0, .bool false, .slice none 0 0] 85)).drewN a) ((h.alloc _).keep (fun _ _ h => h)) at_ (by omega) hd hv).mono (R' := fun e w' => e = .returned (.tuple #[.int .u64 hd, .bool true]) ∧ w' = ((w.alloc (.cells #[.int .i64 0, .bool false, .slice none 0 0] 85)).drewN a)) (fun e w' ⟨h1, h2⟩ => ⟨h1, h2.symm⟩))
  have hw4 : IntKind.i64.wrap ((at_ : Int) + 4) = (at_ : Int) + 4 := wraps_i64 _ (by omega) (by omega)
  have hwl : IntKind.i64.wrap (L - 4) = L - 4 := by rw [IntKind.wrap_i64]; omega
  have HS := hidden (fun w (h : Byt w p n c xs) => slice_good p n c xs w h (by omega) at_ m ha L hm)
  have HX := hidden h
  have HR := hidden hr
  have HP := hidden (show ∀ (e : Ending) (w' : World), (∃ q d, e = .returned (.tuple #[.agg #[.int .i64 kd, .bool (decide (128 ≤ xs.getD (at_ + 1) 0)), .slice q m d], .int .i64 0]) ∧ Bod w' w.heap.size q m d ((xs.drop (at_ + 4)).take m) ∧
    Rdr w' R p n c ((at_ : Int) + L) (if lastK kd then 0 else xs.getD at_ 0) (if lastK kd then xs.getD at_ 0 else inside) err ∧ w.grownBy w' (some R)) → PayOk w R p n c xs at_ m L kd inside err e w' from fun _ _ h => h)
  have HW := hidden (fun w => wraps_any kd w)
  have hat : (at_ : Int) + L ≤ 140737488351232 := by omega
  obtain ⟨c0, c1, c2, c3, c4, fr⟩ := hr
  have hR : R ≠ w.heap.size := by omega
  clear h hl hL hv e2 hm
  generalize xs.getD at_ 0 = x0 at *
  generalize xs.getD (at_ + 1) 0 = x1 at *
  have hbit := bit7 x0 x1 hx0 hx1
  generalize hBX : (xs.drop (at_ + 4)).take m = bs at *
  clear hBX
  go_enter Tryz.func55, Tryz.ntmps55
  go_wp2
  go_quiet ((go_at_call 54; (with_reducible exact Calls.quiet_of_same (HN.out _))))
  go_wp2
  obtain ⟨w1, hw1⟩ : ∃ v, v = (w.alloc (.cells #[.int .i64 0, .bool false, .slice none 0 0] 85)).drewN nq := ⟨_, rfl⟩
  rw [← hw1]
  have hb1 : Below w.heap.size w w1 := by rw [hw1]; exact below_drewN_ ((Below.refl _ w).alloc (Nat.le_refl _) _) _
  have hz1 : RawBox w1 w.heap.size := by rw [hw1]; exact (RawBox.new w 0 false none 0 0 85).below (drew_below ⟨_, rfl⟩)
  have hr1 := HR.out.below hb1 hlt
  have hx1 := HX.out.below hb1
  have hxd : Byt w1.drew p n c xs := hx1.keep (fun _ _ h => h)
  have HXD := hidden hxd
  have HB1 := hidden hb1
  have HZ1 := hidden hz1
  have hg1 : w.heap.size < w1.heap.size := by
    obtain ⟨_, _, _, _, _, h, _⟩ := hz1.ex
    exact World.block_lt_of_cell? w1 _ h
  have HR1 := hidden hr1
  clear hw1 hb1 hz1 hx1 hxd c0 c1 c2 c3 c4 fr HX HN HR
  obtain ⟨c0, c1, c2, c3, c4, fr⟩ := hr1
  go_region_with (go_at_call 73; (with_reducible refine (HS.out _ HXD.out).mono ?_); rintro e w3 ⟨q, d, rfl, hbod, hb3⟩)
  all_goals
    have hs1 := HB1.out.size
    have hb3' := HB1.out.drew.trans (hb3.mono (by exact hs1))
    have hz3 := (HZ1.out.below (drew_below ⟨1, rfl⟩)).below hb3
    have hr3 := (HR1.out.below (drew_below (B := R + 1) ⟨1, rfl⟩) (by omega)).below hb3 HR1.out.lt
    have HB3 := hidden hb3'
    have HBO := hidden (hbod.mono (show w.heap.size + 1 ≤ w1.drew.heap.size from hg1))
    have HR3 := hidden hr3
    obtain ⟨⟨k, cc, pp, nn, mm, z0, z1, z2⟩, zf⟩ := hz3
    have hg3 := World.block_lt_of_cell? w3 _ z0
    have hR3 := hr3.lt
    clear hb3 hb3' hbod c0 c1 c2 c3 c4 fr HR1 HZ1 HB1 HXD HS
    obtain ⟨c0, c1, c2, c3, c4, fr⟩ := hr3
    clear hw4 hwl
    have HG3 := hidden (grown_of_below HB3.out (some R))
    have hcasts : R < w.heap.size := hlt
    rcases hlk : lastK kd with _ | _
    all_goals
      rw [hlk] at HW HP
      go_wp2_with (go_at_call 70; (with_reducible refine (HW.out _).mono ?_); rintro e w' ⟨rfl, rfl⟩)
      refine ret_raw2 (g := w.heap.size) (k := kd) (c := decide (128 ≤ x1)) (p := q) (n := m) (m := d) rfl rfl rfl rfl ⟨by go_simp, by go_simp, by go_simp⟩ ?_
      refine HP.out _ _ ⟨q, d, rfl, Bod.mono (base := w.heap.size + 1) ?_ (by omega), ⟨by go_simp, by go_simp, by first | (go_simp; done) | (go_simp; rw [World.cell?_setCell_same' _ _ _ (by go_simp; done)]), by go_simp, by go_simp, fun j => by go_simp⟩, ?_⟩
      · repeat' (first | with_reducible exact HBO.out | (with_reducible refine Bod.alloc ?_ _) | (with_reducible refine Bod.set_low ?_ _ _ _ (by omega)))
      · repeat' (first | with_reducible exact HG3.out | (with_reducible refine grown_alloc_new ?_ _) | (with_reducible refine grown_set_R ?_ _ _) | (with_reducible refine grown_set_new ?_ _ _ _ (Nat.le_refl _)))
end Go.Proofs.YtnbkffehhahckaaGreat

namespace Go.Proofs.YtnbkffehhahckaaGreat
open Go.RowKit
set_option linter.unusedVariables false
def ParsedC (w : World) (r : ResC) (e : Ending) (w' : World) : Prop := ∃ v l, e = .returned (.tuple #[v, .int .i64 r.n, .int .i64 r.e]) ∧ Rws w' w.heap.size v l ∧ l.map RawP.raw = r.l ∧ l.length ≤ 40 ∧ Below w.heap.size w w'
theorem parsedC_fail (w w' : World) (E : Int) (r : ResC) (hr : failC E = r) (hb : Below w.heap.size w w') : ParsedC w r (.returned (.tuple #[.slice none 0 0, .int .i64 0, .int .i64 E])) w' := by
  subst hr
  exact ⟨_, [], rfl, Rws.nil _ _, rfl, by simp, hb⟩
theorem preC_form (out : List Raw) (r : ResC) (h : (preC out r).e ≠ 0) : preC out r = failC (preC out r).e := by
  unfold preC at h ⊢
  split
  · rfl
  · rename_i h1
    rw [if_neg h1] at h
    exact absurd rfl h
theorem parse_form (left : Nat) (kind : Int) (xs : List Int) (h : (parseC left kind xs).e ≠ 0) : parseC left kind xs = failC (parseC left kind xs).e := by
  by_cases hk : kind = 0
  · subst hk
    rw [parseC_end] at h ⊢
    split
    · rfl
    · rename_i h1
      rw [if_neg h1] at h
      exact absurd rfl h
  cases left with
  | zero => rw [parseC_many _ _ hk]; rfl
  | succ left =>
    rw [parseC_more _ _ _ hk] at h ⊢
    by_cases h1 : xs.length < 4
    · rw [if_pos h1]; rfl
    rw [if_neg h1] at h ⊢
    by_cases h2 : lenC xs < 4 ∨ (xs.length : Int) < lenC xs
    · rw [if_pos h2]; rfl
    rw [if_neg h2] at h ⊢
    by_cases h3 : lastK kind = true
    · rw [if_pos h3] at h ⊢
      split
      · rfl
      · rename_i h4
        rw [if_neg h4] at h
        exact absurd rfl h
    · rw [if_neg h3] at h ⊢
      exact preC_form _ _ h
structure StP (w wr : World) (xs : List Int) (n : Nat) (r : ResC) (o : Value) (k a : Int) : Prop where
  ex : ∃ (at_ : Nat) (l : List RawP), a = (at_ : Int) ∧ at_ ≤ n ∧ 0 ≤ k ∧ k ≤ 255 ∧ l.length ≤ 40 ∧ preC (l.map RawP.raw) (parseC (40 - l.length) k (xs.drop at_)) = r ∧ Rws wr w.heap.size o l
  bel : Below w.heap.size w wr
end Go.Proofs.YtnbkffehhahckaaGreat
