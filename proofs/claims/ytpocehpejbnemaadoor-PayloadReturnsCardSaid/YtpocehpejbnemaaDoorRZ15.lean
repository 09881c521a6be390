/-
  What package selector reads of the beginning of some bytes.
  What package selector's readOne returns, for any bytes.
  What package selector's read and Parse return, for any bytes.
-/
import Derived.Test.YtpocehpejbnemaaDoorRZ0
import Derived.Test.YtpocehpejbnemaaDoorRZ1
import Derived.Test.YtpocehpejbnemaaDoorRZ3
import Derived.Test.YtpocehpejbnemaaDoorRZ16
namespace Go.Proofs.YtpocehpejbnemaaDoor
open Go.RowKit
set_option linter.unusedVariables false

theorem numR_bd (xs : List Int) (hr : ∀ x ∈ xs, 0 ≤ x ∧ x ≤ 255) (a k : Int) : 0 ≤ (numR xs a k).1 ∧ (numR xs a k).1 ≤ 18446744073709551615 := by
  unfold numR
  split
  · rename_i h
    have hb := val_bd ((xs.drop a.toNat).take k.toNat) (rng_take (rng_drop hr _) _)
    have hl : ((xs.drop a.toNat).take k.toNat).length ≤ 8 := by simp; omega
    have h8 := pow256_le hl
    have e : (256 : Int) ^ 8 = 18446744073709551616 := by decide
    rw [e] at h8
    simp only
    omega
  · simp
theorem numR_two (xs : List Int) (hr : ∀ x ∈ xs, 0 ≤ x ∧ x ≤ 255) (a k : Int) (hk : k ≤ 2) : (numR xs a k).1 ≤ 65535 := by
  unfold numR
  split
  · rename_i h
    have hb := val_bd ((xs.drop a.toNat).take k.toNat) (rng_take (rng_drop hr _) _)
    have hl : ((xs.drop a.toNat).take k.toNat).length ≤ 2 := by simp; omega
    have h8 := pow256_le hl
    have e : (256 : Int) ^ 2 = 65536 := by decide
    rw [e] at h8
    simp only
    omega
  · simp
theorem numR_in (xs : List Int) (a k : Nat) (h1 : 1 ≤ k) (h8 : k ≤ 8) (h : a + k ≤ xs.length) : numR xs a k = (nAt xs a k, true) := by
  unfold numR nAt
  rw [if_pos (by omega)]
  rfl
theorem nAt_one (xs : List Int) (a : Nat) (h : a < xs.length) : nAt xs a 1 = xs.getD a 0 := by
  unfold nAt
  rw [List.drop_eq_getElem_cons h, List.take_succ_cons, List.take_zero, List.getD_eq_getElem?_getD, List.getElem?_eq_getElem h]
  show (0 : Int) * 256 + xs[a] = xs[a]
  omega
/-- The selector at the beginning, by the numbers that are read. -/
theorem oneS_num (xs : List Int) (K Z : Int) (hK : (numR xs 0 1).1 = K) (hZ : (numR xs 2 2).1 = Z) :
    oneS xs = if K = 7 ∧ Z = 16 ∧ 16 ≤ xs.length then some (⟨nAt xs 1 1, nAt xs 4 2, nAt xs 6 2, ⟨4, 0, nAt xs 8 4⟩, ⟨4, 0, nAt xs 12 4⟩⟩, 16)
      else if K = 8 ∧ Z = 40 ∧ 40 ≤ xs.length then some (⟨nAt xs 1 1, nAt xs 4 2, nAt xs 6 2, ⟨6, nAt xs 8 8, nAt xs 16 8⟩, ⟨6, nAt xs 24 8, nAt xs 32 8⟩⟩, 40)
      else none := by
  unfold oneS
  by_cases h : xs.length < 8
  · rw [if_pos h, if_neg (by omega), if_neg (by omega)]
  · rw [if_neg h]
    have h0 := numR_in xs 0 1 (by omega) (by omega) (by omega)
    have h2 := numR_in xs 2 2 (by omega) (by omega) (by omega)
    rw [show ((0 : Nat) : Int) = 0 from rfl, show ((1 : Nat) : Int) = 1 from rfl] at h0
    rw [show ((2 : Nat) : Int) = 2 from rfl] at h2
    rw [h0] at hK
    rw [h2] at hZ
    simp only at hK hZ
    rw [← nAt_one xs 0 (by omega), ← nAt_one xs 1 (by omega), hK, hZ]

theorem snum_any (p : Option Addr) (n c : Nat) (xs : List Int) (w : World) (h : Byt w p n c xs) (a k : Int) (ha : -9223372036854775808 ≤ a ∧ a ≤ 9223372036854775807) (hk : 0 ≤ k ∧ k ≤ 2) (v : Int) (hv : (numR xs a k).1 = v) :
    Calls Tryd.prog 140 #[.slice p n c, .int .i64 a, .int .i64 k] w fun e w' => e = .returned (.int .i64 v) ∧ w = w' := by
  have HN := hidden (number_any p n c xs w h a k ha (by omega))
  have b1 := numR_bd xs h.rng a k
  have b2 := numR_two xs h.rng a k hk.2
  rw [hv] at b1 b2
  obtain ⟨v', ok, hr⟩ : ∃ v' ok, numR xs a k = (v', ok) := ⟨_, _, rfl⟩
  rw [hr] at hv
  obtain rfl : v' = v := hv
  rw [hr] at HN
  have hw : IntKind.i64.wrap v' = v' := by rw [IntKind.wrap_i64]; omega
  clear h hr
  go_enter Tryd.func140, Tryd.ntmps140
  go_wp2_with (first
    | (go_at_call 114; (with_reducible refine (HN.out).mono ?_); rintro e w' ⟨rfl, rfl⟩)
    | fail)
  go_ret
  exact ⟨rfl, rfl⟩

theorem num_b (p : Option Addr) (n c : Nat) (xs : List Int) (w : World) (h : Byt w p n c xs) (a k : Nat) (A K : Int) (hA : A = a) (hK : K = k) (h1 : 1 ≤ k) (h8 : k ≤ 8) (hin : a + k ≤ n) :
    Calls Tryd.prog 114 #[.slice p n c, .int .i64 A, .int .i64 K] w fun e w' => e = .returned (.tuple #[.int .u64 (nAt xs a k), .bool true]) ∧ w = w' := by
  subst hA hK
  exact number_yes p n c xs w h a k h1 h8 hin
theorem read4_any (p : Option Addr) (n c : Nat) (xs : List Int) (w : World) (h : Byt w p n c xs) (a : Nat) (A : Int) (hA : A = a) (hin : a + 4 ≤ n) :
    Calls Tryd.prog 141 #[.slice p n c, .int .i64 A] w fun e w' => e = .returned (.agg #[.int .i64 4, .int .u64 0, .int .u64 (nAt xs a 4)]) ∧ Below w.heap.size w w' := by
  subst hA
  have hn := h.le
  have HN := hidden (num_b p n c xs _ (h.alloc (.cells #[.int .i64 0, .int .u64 0, .int .u64 0] 115)) a 4 a 4 rfl rfl (by omega) (by omega) (by omega))
  have HB := hidden ((Below.refl w.heap.size w).alloc (Nat.le_refl _) (.cells #[.int .i64 0, .int .u64 0, .int .u64 0] 115))
  clear h
  go_enter Tryd.func141, Tryd.ntmps141
  go_wp2_with (first
    | (go_at_call 114; (with_reducible refine (HN.out).mono ?_); rintro e w' ⟨rfl, rfl⟩)
    | fail)
  refine ret_ad (g := w.heap.size) (x := ⟨4, 0, nAt xs a 4⟩) rfl rfl rfl (AdIn.new w ⟨4, 0, nAt xs a 4⟩ _) ?_
  exact ⟨rfl, (Below.refl w.heap.size w).alloc (Nat.le_refl _) _⟩
theorem read6_any (p : Option Addr) (n c : Nat) (xs : List Int) (w : World) (h : Byt w p n c xs) (a : Nat) (A : Int) (hA : A = a) (hin : a + 16 ≤ n) :
    Calls Tryd.prog 142 #[.slice p n c, .int .i64 A] w fun e w' => e = .returned (.agg #[.int .i64 6, .int .u64 (nAt xs a 8), .int .u64 (nAt xs (a + 8) 8)]) ∧ Below w.heap.size w w' := by
  subst hA
  have hn := h.le
  have HN := hidden (num_b p n c xs _ (h.alloc (.cells #[.int .i64 0, .int .u64 0, .int .u64 0] 115)) a 8 a 8 rfl rfl (by omega) (by omega) (by omega))
  have HM := hidden (num_b p n c xs _ (h.alloc (.cells #[.int .i64 0, .int .u64 0, .int .u64 0] 115)) (a + 8) 8 ((a : Int) + 8) 8 (by omega) rfl (by omega) (by omega) (by omega))
  have hw : IntKind.i64.wrap ((a : Int) + 8) = (a : Int) + 8 := by rw [IntKind.wrap_i64]; omega
  clear h
  go_enter Tryd.func142, Tryd.ntmps142
  go_wp2_with (first
    | (go_at_call 114; (first | (with_reducible refine (HN.out).mono ?_) | (with_reducible refine (HM.out).mono ?_)); rintro e w' ⟨rfl, rfl⟩)
    | fail)
  refine ret_ad (g := w.heap.size) (x := ⟨6, nAt xs a 8, nAt xs (a + 8) 8⟩) rfl rfl rfl (AdIn.new w ⟨6, nAt xs a 8, nAt xs (a + 8) 8⟩ _) ?_
  exact ⟨rfl, (Below.refl w.heap.size w).alloc (Nat.le_refl _) _⟩
end Go.Proofs.YtpocehpejbnemaaDoor

namespace Go.Proofs.YtpocehpejbnemaaDoor
open Go.RowKit
set_option linter.unusedVariables false

theorem ret_sl3 {fn : Func} {R : Ending → World → Prop} {a : Act} {w : World} {p x y : Nat} {g : Nat} {s : Sl} {u v : Value} (h : fn.results = #[.cell p 117, .tmp x, .tmp y]) (hp : a.tmps.getD p undef = .pointer (some ⟨g, 0, none⟩)) (hu : a.tmps.getD x undef = u) (hv : a.tmps.getD y undef = v) (hd : a.defers = [])
    (hh : SlIn w g s) (hR : R (.returned (.tuple #[(.agg #[.int .i64 s.p, .int .i64 s.a, .int .i64 s.b, .int .i64 s.lo.f, .int .u64 s.lo.h, .int .u64 s.lo.l, .int .i64 s.hi.f, .int .u64 s.hi.h, .int .u64 s.hi.l]), u, v])) w) : bodyPost Tryd.prog fn R .ret a w := by
  refine bodyPost_ret (v := .tuple #[(.agg #[.int .i64 s.p, .int .i64 s.a, .int .i64 s.b, .int .i64 s.lo.f, .int .u64 s.lo.h, .int .u64 s.lo.l, .int .i64 s.hi.f, .int .u64 s.hi.h, .int .u64 s.hi.l]), u, v]) ?_ hd hR
  rw [Array.getD_eq_getD_getElem?] at hp hu hv
  simp [results, h, hp, hu, hv, asAddr, load_sl hh, Result.andThen]
theorem put_lohi {w : World} {B M R : Nat} {m r : Sl} (hr : SlIn w R r) (hne : R ≠ M) (h1 : B ≤ M) (h2 : B ≤ R) (z1 z2 : Ad) : SlIn (((((((((((((((w.setCell ⟨M, 3, none⟩ (.int .i64 z1.f)).setCell ⟨M, 4, none⟩ (.int .u64 z1.h)).setCell ⟨M, 5, none⟩ (.int .u64 z1.l)).setCell ⟨M, 6, none⟩ (.int .i64 z2.f)).setCell ⟨M, 7, none⟩ (.int .u64 z2.h)).setCell ⟨M, 8, none⟩ (.int .u64 z2.l)).setCell ⟨R, 0, none⟩ (.int .i64 m.p)).setCell ⟨R, 1, none⟩ (.int .i64 m.a)).setCell ⟨R, 2, none⟩ (.int .i64 m.b)).setCell ⟨R, 3, none⟩ (.int .i64 z1.f)).setCell ⟨R, 4, none⟩ (.int .u64 z1.h)).setCell ⟨R, 5, none⟩ (.int .u64 z1.l)).setCell ⟨R, 6, none⟩ (.int .i64 z2.f)).setCell ⟨R, 7, none⟩ (.int .u64 z2.h)).setCell ⟨R, 8, none⟩ (.int .u64 z2.l)) R { m with lo := z1, hi := z2 } ∧ (∀ W : World, W.heap.size = B → Below B W w → Below B W (((((((((((((((w.setCell ⟨M, 3, none⟩ (.int .i64 z1.f)).setCell ⟨M, 4, none⟩ (.int .u64 z1.h)).setCell ⟨M, 5, none⟩ (.int .u64 z1.l)).setCell ⟨M, 6, none⟩ (.int .i64 z2.f)).setCell ⟨M, 7, none⟩ (.int .u64 z2.h)).setCell ⟨M, 8, none⟩ (.int .u64 z2.l)).setCell ⟨R, 0, none⟩ (.int .i64 m.p)).setCell ⟨R, 1, none⟩ (.int .i64 m.a)).setCell ⟨R, 2, none⟩ (.int .i64 m.b)).setCell ⟨R, 3, none⟩ (.int .i64 z1.f)).setCell ⟨R, 4, none⟩ (.int .u64 z1.h)).setCell ⟨R, 5, none⟩ (.int .u64 z1.l)).setCell ⟨R, 6, none⟩ (.int .i64 z2.f)).setCell ⟨R, 7, none⟩ (.int .u64 z2.h)).setCell ⟨R, 8, none⟩ (.int .u64 z2.l))) :=
  ⟨((((((hr.set_ne _ _ _ hne).set_ne _ _ _ hne).set_ne _ _ _ hne).set_ne _ _ _ hne).set_ne _ _ _ hne).set_ne _ _ _ hne).setAll { m with lo := z1, hi := z2 }, fun W hW hb => (((((((((((((((hb.setCell (p := ⟨M, 3, none⟩) (by simp <;> omega) _).setCell (p := ⟨M, 4, none⟩) (by simp <;> omega) _).setCell (p := ⟨M, 5, none⟩) (by simp <;> omega) _).setCell (p := ⟨M, 6, none⟩) (by simp <;> omega) _).setCell (p := ⟨M, 7, none⟩) (by simp <;> omega) _).setCell (p := ⟨M, 8, none⟩) (by simp <;> omega) _).setCell (p := ⟨R, 0, none⟩) (by simp <;> omega) _).setCell (p := ⟨R, 1, none⟩) (by simp <;> omega) _).setCell (p := ⟨R, 2, none⟩) (by simp <;> omega) _).setCell (p := ⟨R, 3, none⟩) (by simp <;> omega) _).setCell (p := ⟨R, 4, none⟩) (by simp <;> omega) _).setCell (p := ⟨R, 5, none⟩) (by simp <;> omega) _).setCell (p := ⟨R, 6, none⟩) (by simp <;> omega) _).setCell (p := ⟨R, 7, none⟩) (by simp <;> omega) _).setCell (p := ⟨R, 8, none⟩) (by simp <;> omega) _)⟩
/-- What readOne returns. -/
def ReadS (w : World) (r : Option (Sl × Nat)) (e : Ending) (w' : World) : Prop := Below w.heap.size w w' ∧ match r with
  | none => e = .returned (.tuple #[(.agg #[.int .i64 zeroS.p, .int .i64 zeroS.a, .int .i64 zeroS.b, .int .i64 zeroS.lo.f, .int .u64 zeroS.lo.h, .int .u64 zeroS.lo.l, .int .i64 zeroS.hi.f, .int .u64 zeroS.hi.h, .int .u64 zeroS.hi.l]), .int .i64 0, .bool false])
  | some (s, k) => e = .returned (.tuple #[(.agg #[.int .i64 s.p, .int .i64 s.a, .int .i64 s.b, .int .i64 s.lo.f, .int .u64 s.lo.h, .int .u64 s.lo.l, .int .i64 s.hi.f, .int .u64 s.hi.h, .int .u64 s.hi.l]), .int .i64 k, .bool true])

set_option maxHeartbeats 1600000 in
set_option maxRecDepth 100000 in
theorem readOne_any (p : Option Addr) (n c : Nat) (xs : List Int) (w : World) (h : Byt w p n c xs) (r : Option (Sl × Nat)) (hr : oneS xs = r) :
    Calls Tryd.prog 132 #[.slice p n c] w (ReadS w r) := by
  obtain ⟨K, hK⟩ : ∃ K, (numR xs 0 1).1 = K := ⟨_, rfl⟩
  obtain ⟨Z, hZ⟩ : ∃ Z, (numR xs 2 2).1 = Z := ⟨_, rfl⟩
  have hone := oneS_num xs K Z hK hZ
  rw [hr, h.len] at hone
  have hn := h.le
  have HL := hidden h.len
  have HXX := hidden (h.alloc (.cells #[.int .i64 0, .int .i64 0, .int .i64 0, .int .i64 0, .int .u64 0, .int .u64 0, .int .i64 0, .int .u64 0, .int .u64 0] 117))
  have HRZ := hidden (SlIn.new w zeroS 117)
  have HBZ := hidden ((Below.refl w.heap.size w).alloc (Nat.le_refl _) (.cells #[.int .i64 0, .int .i64 0, .int .i64 0, .int .i64 0, .int .u64 0, .int .u64 0, .int .i64 0, .int .u64 0, .int .u64 0] 117))
  have HN01 := hidden (fun w h => snum_any p n c xs w h 0 1 (by omega) (by omega) K hK)
  have HN22 := hidden (fun w h => snum_any p n c xs w h 2 2 (by omega) (by omega) Z hZ)
  clear hK hZ hr
  have hcs : (K = 7 ∧ Z = 16 ∧ 16 ≤ n ∧ r = some (⟨nAt xs 1 1, nAt xs 4 2, nAt xs 6 2, ⟨4, 0, nAt xs 8 4⟩, ⟨4, 0, nAt xs 12 4⟩⟩, 16)) ∨
      (K = 8 ∧ Z = 40 ∧ 40 ≤ n ∧ r = some (⟨nAt xs 1 1, nAt xs 4 2, nAt xs 6 2, ⟨6, nAt xs 8 8, nAt xs 16 8⟩, ⟨6, nAt xs 24 8, nAt xs 32 8⟩⟩, 40)) ∨
      (K = 7 ∧ Z = 16 ∧ n < 16 ∧ r = none) ∨ (K = 8 ∧ Z = 40 ∧ n < 40 ∧ r = none) ∨ (K = 7 ∧ (Z == 16) = false ∧ r = none) ∨ (K = 8 ∧ (Z == 40) = false ∧ r = none) ∨ ((K == 7) = false ∧ (K == 8) = false ∧ r = none) := by
    by_cases h7 : K = 7
    · by_cases h16 : Z = 16
      · by_cases hn16 : 16 ≤ n
        · rw [if_pos ⟨h7, h16, hn16⟩] at hone
          exact Or.inl ⟨h7, h16, hn16, hone⟩
        · rw [if_neg (by omega), if_neg (by omega)] at hone
          exact Or.inr (Or.inr (Or.inl ⟨h7, h16, by omega, hone⟩))
      · rw [if_neg (by omega), if_neg (by omega)] at hone
        exact Or.inr (Or.inr (Or.inr (Or.inr (Or.inl ⟨h7, by simpa using h16, hone⟩))))
    · by_cases h8 : K = 8
      · by_cases h40 : Z = 40
        · by_cases hn40 : 40 ≤ n
          · rw [if_neg (by omega), if_pos ⟨h8, h40, hn40⟩] at hone
            exact Or.inr (Or.inl ⟨h8, h40, hn40, hone⟩)
          · rw [if_neg (by omega), if_neg (by omega)] at hone
            exact Or.inr (Or.inr (Or.inr (Or.inl ⟨h8, h40, by omega, hone⟩)))
        · rw [if_neg (by omega), if_neg (by omega)] at hone
          exact Or.inr (Or.inr (Or.inr (Or.inr (Or.inr (Or.inl ⟨h8, by simpa using h40, hone⟩)))))
      · rw [if_neg (by omega), if_neg (by omega)] at hone
        exact Or.inr (Or.inr (Or.inr (Or.inr (Or.inr (Or.inr ⟨by simpa using h7, by simpa using h8, hone⟩)))))
  clear hone
  rcases hcs with ⟨rfl, rfl, hN, hO⟩ | ⟨rfl, rfl, hN, hO⟩ | ⟨rfl, rfl, hN, hO⟩ | ⟨rfl, rfl, hN, hO⟩ | ⟨rfl, hN, hO⟩ | ⟨rfl, hN, hO⟩ | ⟨hN, hN2, hO⟩
  all_goals have HO := hidden hO
  all_goals clear hO
  · have HM0 : Hid (SlIn ((w.alloc (.cells #[.int .i64 0, .int .i64 0, .int .i64 0, .int .i64 0, .int .u64 0, .int .u64 0, .int .i64 0, .int .u64 0, .int .u64 0] 117)).alloc (.cells #[.int .i64 (nAt xs 1 1), .int .i64 (nAt xs 4 2), .int .i64 (nAt xs 6 2), .int .i64 0, .int .u64 0, .int .u64 0, .int .i64 0, .int .u64 0, .int .u64 0] 117)) (w.heap.size + 1) ⟨nAt xs 1 1, nAt xs 4 2, nAt xs 6 2, zeroA, zeroA⟩) := hidden (by
      have := SlIn.new (w.alloc (.cells #[.int .i64 0, .int .i64 0, .int .i64 0, .int .i64 0, .int .u64 0, .int .u64 0, .int .i64 0, .int .u64 0, .int .u64 0] 117)) ⟨nAt xs 1 1, nAt xs 4 2, nAt xs 6 2, zeroA, zeroA⟩ 117
      simpa [zeroA] using this)
    have HR0 := hidden ((SlIn.new w zeroS 117).alloc (.cells #[.int .i64 (nAt xs 1 1), .int .i64 (nAt xs 4 2), .int .i64 (nAt xs 6 2), .int .i64 0, .int .u64 0, .int .u64 0, .int .i64 0, .int .u64 0, .int .u64 0] 117))
    have HB0 := hidden (below_two (w := w) (.cells #[.int .i64 0, .int .i64 0, .int .i64 0, .int .i64 0, .int .u64 0, .int .u64 0, .int .i64 0, .int .u64 0, .int .u64 0] 117) (.cells #[.int .i64 (nAt xs 1 1), .int .i64 (nAt xs 4 2), .int .i64 (nAt xs 6 2), .int .i64 0, .int .u64 0, .int .u64 0, .int .i64 0, .int .u64 0, .int .u64 0] 117))
    have HS1X := hidden (HXX.out.alloc (.cells #[.int .i64 (nAt xs 1 1), .int .i64 (nAt xs 4 2), .int .i64 (nAt xs 6 2), .int .i64 0, .int .u64 0, .int .u64 0, .int .i64 0, .int .u64 0, .int .u64 0] 117))
    have HN11 := hidden (fun w h => snum_any p n c xs w h 1 1 (by omega) (by omega) (nAt xs 1 1) (by have := numR_in xs 1 1 (by omega) (by omega) (by rw [HL.out]; omega); rw [show ((1 : Nat) : Int) = 1 from rfl] at this; rw [this]))
    have HN42 := hidden (fun w h => snum_any p n c xs w h 4 2 (by omega) (by omega) (nAt xs 4 2) (by have := numR_in xs 4 2 (by omega) (by omega) (by rw [HL.out]; omega); rw [show ((4 : Nat) : Int) = 4 from rfl, show ((2 : Nat) : Int) = 2 from rfl] at this; rw [this]))
    have HN62 := hidden (fun w h => snum_any p n c xs w h 6 2 (by omega) (by omega) (nAt xs 6 2) (by have := numR_in xs 6 2 (by omega) (by omega) (by rw [HL.out]; omega); rw [show ((6 : Nat) : Int) = 6 from rfl, show ((2 : Nat) : Int) = 2 from rfl] at this; rw [this]))
    clear h
    go_enter Tryd.func132, Tryd.ntmps132
    go_wp2_with (first
      | (go_at_call 140; (with_reducible refine (HN01.out _ HXX.out).mono ?_); rintro e w' ⟨rfl, rfl⟩)
      | (go_at_call 140; (with_reducible refine (HN22.out _ HXX.out).mono ?_); rintro e w' ⟨rfl, rfl⟩)
      | (go_at_call 140; (with_reducible refine (HN11.out _ HXX.out).mono ?_); rintro e w' ⟨rfl, rfl⟩)
      | (go_at_call 140; (with_reducible refine (HN42.out _ HXX.out).mono ?_); rintro e w' ⟨rfl, rfl⟩)
      | (go_at_call 140; (with_reducible refine (HN62.out _ HXX.out).mono ?_); rintro e w' ⟨rfl, rfl⟩)
      | (go_at_call 141; (with_reducible refine (read4_any p n c xs _ HS1X.out 8 8 rfl (by omega)).mono ?_); rintro e w1 ⟨rfl, hb⟩; have HM1 := hidden (HM0.out.below hb); have HR1 := hidden (HR0.out.below hb); have HX1 := hidden (HS1X.out.below hb); have HB1 := hidden (HB0.out.trans (hb.mono HB0.out.size)); clear hb)
      | (go_at_call 141; (with_reducible refine (read4_any p n c xs _ HX1.out 12 12 rfl (by omega)).mono ?_); rintro e w2 ⟨rfl, hb⟩; have HM2 := hidden (HM1.out.below hb); have HR2 := hidden (HR1.out.below hb); have HB2 := hidden (HB1.out.trans (hb.mono HB1.out.size)); obtain ⟨m0, m1, m2, m3, m4, m5, m6, m7, m8, mf⟩ := HM2.out; obtain ⟨r0, r1, r2, r3, r4, r5, r6, r7, r8, rf⟩ := HR2.out; clear hb)
      | fail)
    obtain ⟨z1, z2⟩ := put_lohi (B := w.heap.size) (m := ⟨nAt xs 1 1, nAt xs 4 2, nAt xs 6 2, zeroA, zeroA⟩) HR2.out (show w.heap.size ≠ w.heap.size + 1 by omega) (by omega) (Nat.le_refl _) ⟨4, 0, nAt xs 8 4⟩ ⟨4, 0, nAt xs 12 4⟩
    refine ret_sl3 (g := w.heap.size) (s := ⟨nAt xs 1 1, nAt xs 4 2, nAt xs 6 2, ⟨4, 0, nAt xs 8 4⟩, ⟨4, 0, nAt xs 12 4⟩⟩) (u := .int .i64 16) (v := .bool true) rfl rfl rfl rfl rfl z1 ?_
    refine ⟨z2 w rfl HB2.out, ?_⟩
    rw [HO.out]
    rfl
  · have HM0 : Hid (SlIn ((w.alloc (.cells #[.int .i64 0, .int .i64 0, .int .i64 0, .int .i64 0, .int .u64 0, .int .u64 0, .int .i64 0, .int .u64 0, .int .u64 0] 117)).alloc (.cells #[.int .i64 (nAt xs 1 1), .int .i64 (nAt xs 4 2), .int .i64 (nAt xs 6 2), .int .i64 0, .int .u64 0, .int .u64 0, .int .i64 0, .int .u64 0, .int .u64 0] 117)) (w.heap.size + 1) ⟨nAt xs 1 1, nAt xs 4 2, nAt xs 6 2, zeroA, zeroA⟩) := hidden (by
      have := SlIn.new (w.alloc (.cells #[.int .i64 0, .int .i64 0, .int .i64 0, .int .i64 0, .int .u64 0, .int .u64 0, .int .i64 0, .int .u64 0, .int .u64 0] 117)) ⟨nAt xs 1 1, nAt xs 4 2, nAt xs 6 2, zeroA, zeroA⟩ 117
      simpa [zeroA] using this)
    have HR0 := hidden ((SlIn.new w zeroS 117).alloc (.cells #[.int .i64 (nAt xs 1 1), .int .i64 (nAt xs 4 2), .int .i64 (nAt xs 6 2), .int .i64 0, .int .u64 0, .int .u64 0, .int .i64 0, .int .u64 0, .int .u64 0] 117))
    have HB0 := hidden (below_two (w := w) (.cells #[.int .i64 0, .int .i64 0, .int .i64 0, .int .i64 0, .int .u64 0, .int .u64 0, .int .i64 0, .int .u64 0, .int .u64 0] 117) (.cells #[.int .i64 (nAt xs 1 1), .int .i64 (nAt xs 4 2), .int .i64 (nAt xs 6 2), .int .i64 0, .int .u64 0, .int .u64 0, .int .i64 0, .int .u64 0, .int .u64 0] 117))
    have HS1X := hidden (HXX.out.alloc (.cells #[.int .i64 (nAt xs 1 1), .int .i64 (nAt xs 4 2), .int .i64 (nAt xs 6 2), .int .i64 0, .int .u64 0, .int .u64 0, .int .i64 0, .int .u64 0, .int .u64 0] 117))
    have HN11 := hidden (fun w h => snum_any p n c xs w h 1 1 (by omega) (by omega) (nAt xs 1 1) (by have := numR_in xs 1 1 (by omega) (by omega) (by rw [HL.out]; omega); rw [show ((1 : Nat) : Int) = 1 from rfl] at this; rw [this]))
    have HN42 := hidden (fun w h => snum_any p n c xs w h 4 2 (by omega) (by omega) (nAt xs 4 2) (by have := numR_in xs 4 2 (by omega) (by omega) (by rw [HL.out]; omega); rw [show ((4 : Nat) : Int) = 4 from rfl, show ((2 : Nat) : Int) = 2 from rfl] at this; rw [this]))
    have HN62 := hidden (fun w h => snum_any p n c xs w h 6 2 (by omega) (by omega) (nAt xs 6 2) (by have := numR_in xs 6 2 (by omega) (by omega) (by rw [HL.out]; omega); rw [show ((6 : Nat) : Int) = 6 from rfl, show ((2 : Nat) : Int) = 2 from rfl] at this; rw [this]))
    clear h
    go_enter Tryd.func132, Tryd.ntmps132
    go_wp2_with (first
      | (go_at_call 140; (with_reducible refine (HN01.out _ HXX.out).mono ?_); rintro e w' ⟨rfl, rfl⟩)
      | (go_at_call 140; (with_reducible refine (HN22.out _ HXX.out).mono ?_); rintro e w' ⟨rfl, rfl⟩)
      | (go_at_call 140; (with_reducible refine (HN11.out _ HXX.out).mono ?_); rintro e w' ⟨rfl, rfl⟩)
      | (go_at_call 140; (with_reducible refine (HN42.out _ HXX.out).mono ?_); rintro e w' ⟨rfl, rfl⟩)
      | (go_at_call 140; (with_reducible refine (HN62.out _ HXX.out).mono ?_); rintro e w' ⟨rfl, rfl⟩)
      | (go_at_call 142; (with_reducible refine (read6_any p n c xs _ HS1X.out 8 8 rfl (by omega)).mono ?_); rintro e w1 ⟨rfl, hb⟩; have HM1 := hidden (HM0.out.below hb); have HR1 := hidden (HR0.out.below hb); have HX1 := hidden (HS1X.out.below hb); have HB1 := hidden (HB0.out.trans (hb.mono HB0.out.size)); clear hb)
      | (go_at_call 142; (with_reducible refine (read6_any p n c xs _ HX1.out 24 24 rfl (by omega)).mono ?_); rintro e w2 ⟨rfl, hb⟩; have HM2 := hidden (HM1.out.below hb); have HR2 := hidden (HR1.out.below hb); have HB2 := hidden (HB1.out.trans (hb.mono HB1.out.size)); obtain ⟨m0, m1, m2, m3, m4, m5, m6, m7, m8, mf⟩ := HM2.out; obtain ⟨r0, r1, r2, r3, r4, r5, r6, r7, r8, rf⟩ := HR2.out; clear hb)
      | fail)
    obtain ⟨z1, z2⟩ := put_lohi (B := w.heap.size) (m := ⟨nAt xs 1 1, nAt xs 4 2, nAt xs 6 2, zeroA, zeroA⟩) HR2.out (show w.heap.size ≠ w.heap.size + 1 by omega) (by omega) (Nat.le_refl _) ⟨6, nAt xs 8 8, nAt xs 16 8⟩ ⟨6, nAt xs 24 8, nAt xs 32 8⟩
    refine ret_sl3 (g := w.heap.size) (s := ⟨nAt xs 1 1, nAt xs 4 2, nAt xs 6 2, ⟨6, nAt xs 8 8, nAt xs 16 8⟩, ⟨6, nAt xs 24 8, nAt xs 32 8⟩⟩) (u := .int .i64 40) (v := .bool true) rfl rfl rfl rfl rfl z1 ?_
    refine ⟨z2 w rfl HB2.out, ?_⟩
    rw [HO.out]
    rfl
  all_goals
    obtain ⟨r0, r1, r2, r3, r4, r5, r6, r7, r8, rf⟩ := HRZ.out
    clear h
    go_enter Tryd.func132, Tryd.ntmps132
    go_wp2_with (first
      | (go_at_call 140; (with_reducible refine (HN01.out _ HXX.out).mono ?_); rintro e w' ⟨rfl, rfl⟩)
      | (go_at_call 140; (with_reducible refine (HN22.out _ HXX.out).mono ?_); rintro e w' ⟨rfl, rfl⟩)
      | fail)
    refine ret_sl3 (g := w.heap.size) (s := zeroS) (u := .int .i64 0) (v := .bool false) rfl rfl rfl rfl rfl HRZ.out ?_
    refine ⟨HBZ.out, ?_⟩
    rw [HO.out]
end Go.Proofs.YtpocehpejbnemaaDoor

namespace Go.Proofs.YtpocehpejbnemaaDoor
open Go.RowKit
set_option linter.unusedVariables false

theorem one_len {xs : List Int} {s : Sl} {k : Nat} (h : oneS xs = some (s, k)) : k ≤ xs.length ∧ (k = 16 ∨ k = 40) := by
  unfold oneS at h
  split at h
  · cases h
  split at h
  · rename_i h1
    obtain ⟨-, rfl⟩ := Prod.mk.inj (Option.some.inj h)
    exact ⟨h1.2.2, Or.inl rfl⟩
  split at h
  · rename_i h1
    obtain ⟨-, rfl⟩ := Prod.mk.inj (Option.some.inj h)
    exact ⟨h1.2.2, Or.inr rfl⟩
  · cases h
theorem nAt_bd (xs : List Int) (hr : ∀ x ∈ xs, 0 ≤ x ∧ x ≤ 255) (a k : Nat) (hk : k ≤ 8) : 0 ≤ nAt xs a k ∧ nAt xs a k ≤ 18446744073709551615 := by
  have hb := val_bd ((xs.drop a).take k) (rng_take (rng_drop hr _) _)
  have hl : ((xs.drop a).take k).length ≤ 8 := by simp; omega
  have h8 := pow256_le hl
  have e : (256 : Int) ^ 8 = 18446744073709551616 := by decide
  rw [e] at h8
  unfold nAt
  omega
theorem nAt_two (xs : List Int) (hr : ∀ x ∈ xs, 0 ≤ x ∧ x ≤ 255) (a k : Nat) (hk : k ≤ 2) : nAt xs a k ≤ 65535 := by
  have hb := val_bd ((xs.drop a).take k) (rng_take (rng_drop hr _) _)
  have hl : ((xs.drop a).take k).length ≤ 2 := by simp; omega
  have h8 := pow256_le hl
  have e : (256 : Int) ^ 2 = 65536 := by decide
  rw [e] at h8
  unfold nAt
  omega
theorem one_fit {xs : List Int} (hr : ∀ x ∈ xs, 0 ≤ x ∧ x ≤ 255) {s : Sl} {k : Nat} (h : oneS xs = some (s, k)) : FitS s := by
  have h0 := rng_getD hr 1
  have b := nAt_bd xs hr
  have t := nAt_two xs hr
  unfold oneS at h
  split at h
  · cases h
  split at h
  · obtain ⟨rfl, -⟩ := Prod.mk.inj (Option.some.inj h)
    have b1 := b 4 2 (by omega)
    have b2 := b 6 2 (by omega)
    have t1 := t 4 2 (by omega)
    have t2 := t 6 2 (by omega)
    exact ⟨by simp only; omega, by simp only; omega, by simp only; omega, ⟨by simp, by simp, b 8 4 (by omega)⟩, ⟨by simp, by simp, b 12 4 (by omega)⟩⟩
  split at h
  · obtain ⟨rfl, -⟩ := Prod.mk.inj (Option.some.inj h)
    have b1 := b 4 2 (by omega)
    have b2 := b 6 2 (by omega)
    have t1 := t 4 2 (by omega)
    have t2 := t 6 2 (by omega)
    exact ⟨by simp only; omega, by simp only; omega, by simp only; omega, ⟨by simp, b 8 8 (by omega), b 16 8 (by omega)⟩, ⟨by simp, b 24 8 (by omega), b 32 8 (by omega)⟩⟩
  · cases h

/-- What read returns. -/
def ReadL (w : World) (r : Option (List Sl)) (e : Ending) (w' : World) : Prop := Below w.heap.size w w' ∧ match r with
  | none => ∃ v, e = .returned (.tuple #[v, .bool false])
  | some l => ∃ v, e = .returned (.tuple #[v, .bool true]) ∧ RowG KSl NSl w' w.heap.size v l

set_option maxHeartbeats 1600000 in
set_option maxRecDepth 100000 in
theorem sread_any (p : Option Addr) (n c : Nat) (xs : List Int) (w : World) (h : Byt w p n c xs) (N : Nat) (hN : N ≤ 255) (r : Option (List Sl)) (hr : manyS N xs = r) :
    Calls Tryd.prog 119 #[.slice p n c, .int .i64 N] w (ReadL w r) := by
  have HX := hidden h
  have HR := hidden hr
  clear h hr
  go_enter Tryd.func119, Tryd.ntmps119
  go_wp2
  go_loopw [0, 6, 11] (fun b v i wr => ∃ (j : Nat) (l : List Sl) (p' : Option Addr) (n' c' : Nat) (ys : List Int), i = .int .i64 j ∧ j ≤ N ∧ l.length = j ∧ b = .slice p' n' c' ∧ Byt w p' n' c' ys ∧ (manyS (N - j) ys).map (l ++ ·) = r ∧ RowG KSl NSl wr w.heap.size v l ∧ Below w.heap.size w wr) (fun _ _ i _ => N - (intOf i).toNat)
  case atStart => exact ⟨0, [], p, n, c, xs, rfl, by omega, rfl, rfl, HX.out, by rw [← HR.out]; simp, RowG.nil _ _ _ _, Below.refl _ _⟩
  case round =>
    obtain ⟨j, l, p', n', c', ys, rfl, hj, hlj, rfl, hby, hm, hrow, hb⟩ := hrel
    obtain ⟨po, co, rfl⟩ := hrow.form rfl
    have HLJ := hidden hlj
    have hl255 : l.length ≤ 255 := by omega
    clear hlj
    have HY := hidden hby
    have HRW := hidden hrow
    have HB := hidden hb
    have hn' := hby.le
    have hlen := hidden hby.len
    clear HX HR hrow
    by_cases hlt : j < N
    · have hlt' : (j : Int) < N := by omega
      rw [show N - j = (N - (j + 1)) + 1 by omega] at hm
      obtain ⟨o, ho⟩ : ∃ o, oneS ys = o := ⟨_, rfl⟩
      have HO := hidden (fun w (h : Byt w p' n' c' ys) => readOne_any p' n' c' ys w h o ho)
      have HYW := hidden (hby.below hb)
      unfold manyS at hm
      rw [ho] at hm
      cases o with
      | none =>
        have HM := hidden hm
        clear hm ho hby hb
        go_wp2_with (first
          | (go_at_call 132; (with_reducible refine (HO.out _ HYW.out).mono ?_); rintro e w1 ⟨hb1, rfl⟩; have HB1 := hidden (HB.out.trans (hb1.mono HB.out.size)); clear hb1)
          | fail)
        go_ret2
        have hM := HM.out
        simp only [Option.map_none] at hM
        subst hM
        exact ⟨HB1.out.alloc HB1.out.size _, _, rfl⟩
      | some sk =>
        obtain ⟨s, k'⟩ := sk
        simp only at hm
        obtain ⟨hk1, hk2⟩ := one_len ho
        rw [hby.len] at hk1
        have hfit := one_fit hby.rng ho
        obtain ⟨bb, oo, rfl, -⟩ := hby.at_ (by omega)
        have hpart := hby.part k' n' hk1 (Nat.le_refl _)
        rw [List.take_of_length_le (by rw [hby.len]; omega)] at hpart
        have hcap := hby.cap
        have HF := hidden hfit
        have HM := hidden hm
        have HPA := hidden hpart
        clear hm ho hby hb hfit hpart hk2
        have hcc : (c' = k' ∧ n' = k') ∨ c' ≠ k' := by omega
        rcases hcc with ⟨rfl, rfl⟩ | hcc
        all_goals
          first | (rw [if_pos rfl, Nat.sub_self] at HPA) | (rw [if_neg hcc, Option.map_some, WideShapes.add_plain] at HPA; replace HPA : Hid (Byt w (some ⟨bb, oo + k', none⟩) (n' - k') (c' - k') (List.drop k' ys)) := HPA)
          go_wp2_with (first
            | (go_at_call 132; (with_reducible refine (HO.out _ HYW.out).mono ?_); rintro e w1 ⟨hb1, rfl⟩; have HB1 := hidden ((HB.out.trans (hb1.mono HB.out.size)).alloc (HB.out.trans (hb1.mono HB.out.size)).size (.cells #[.int .i64 s.p, .int .i64 s.a, .int .i64 s.b, .int .i64 s.lo.f, .int .u64 s.lo.h, .int .u64 s.lo.l, .int .i64 s.hi.f, .int .u64 s.hi.h, .int .u64 s.hi.l] 117)); have HR1 := hidden (((HRW.out.below hb1).alloc (.cells #[.int .i64 s.p, .int .i64 s.a, .int .i64 s.b, .int .i64 s.lo.f, .int .u64 s.lo.h, .int .u64 s.lo.l, .int .i64 s.hi.f, .int .u64 s.hi.h, .int .u64 s.hi.l] 117)).alloc (.cells #[.int .i64 s.p, .int .i64 s.a, .int .i64 s.b, .int .i64 s.lo.f, .int .u64 s.lo.h, .int .u64 s.lo.l, .int .i64 s.hi.f, .int .u64 s.hi.h, .int .u64 s.hi.l] 117)); have HSR : Hid (SrcG KSl ((w1.alloc (.cells #[.int .i64 s.p, .int .i64 s.a, .int .i64 s.b, .int .i64 s.lo.f, .int .u64 s.lo.h, .int .u64 s.lo.l, .int .i64 s.hi.f, .int .u64 s.hi.h, .int .u64 s.hi.l] 117)).alloc (.cells #[.int .i64 s.p, .int .i64 s.a, .int .i64 s.b, .int .i64 s.lo.f, .int .u64 s.lo.h, .int .u64 s.lo.l, .int .i64 s.hi.f, .int .u64 s.hi.h, .int .u64 s.hi.l] 117)) (some ⟨w1.heap.size + 1, 0, none⟩) 1 [s]) := hidden (by have := srcSl (w1.alloc (.cells #[.int .i64 s.p, .int .i64 s.a, .int .i64 s.b, .int .i64 s.lo.f, .int .u64 s.lo.h, .int .u64 s.lo.l, .int .i64 s.hi.f, .int .u64 s.hi.h, .int .u64 s.hi.l] 117)) s 117; simpa using this); clear hb1)
            | (at_builtin; go_loud (refine wpList_append_g knownSl (by simp [NSl]) _ rfl _ _ rfl w.heap.size _ l rfl HR1.out _ 1 1 [s] rfl HSR.out (fun x hx => by rw [List.mem_singleton.1 hx]; exact HF.out) (by unfold maxLen; omega) (by omega) (by have := HB1.out.size; simp at this ⊢; omega) ?_))
            | fail)
          intro v' w4 hr4 hg4
          have HB4 := hidden ((HB1.out.alloc HB1.out.size (.cells #[.int .i64 s.p, .int .i64 s.a, .int .i64 s.b, .int .i64 s.lo.f, .int .u64 s.lo.h, .int .u64 s.lo.l, .int .i64 s.hi.f, .int .u64 s.hi.h, .int .u64 s.hi.l] 117)).grown hg4 (by have := HB1.out.size; simp at this ⊢; omega) (fun j hj => (HR1.out.lt j hj).1))
          have HR4 := hidden hr4
          clear hr4 hg4 HR1 HB1
          go_wp2
          go_roundw
          case rel => exact ⟨j + 1, l ++ [s], _, _, _, _, by go_num, by omega, by have := HLJ.out; simp; omega, rfl, HPA.out, by have hM := HM.out; rw [Option.map_map] at hM; rw [← hM]; congr 1; funext x; simp, HR4.out, HB4.out⟩
          case measure => simp [intOf]; omega
    · obtain rfl : j = N := by omega
      rw [Nat.sub_self] at hm
      unfold manyS at hm
      rw [hby.len] at hm
      by_cases h0 : n' = 0
      · subst h0
        simp at hm
        subst hm
        clear hby hb
        go_wp2
        go_ret2
        exact ⟨HB.out, _, rfl, HRW.out⟩
      · have h0' : ((n' : Int) == 0) = false := by simp; omega
        rw [if_neg h0] at hm
        simp only [Option.map_none] at hm
        subst hm
        clear hby hb
        go_wp2
        go_ret2
        exact ⟨HB.out, _, rfl⟩

/-- What Parse returns. -/
def ParsedS (w : World) (r : List Sl × Int) (e : Ending) (w' : World) : Prop := ∃ v, e = .returned (.tuple #[v, .int .i64 r.2]) ∧ RowG KSl NSl w' w.heap.size v r.1 ∧ Below w.heap.size w w'
theorem parsed_none (w w' : World) (E : Int) (r : List Sl × Int) (h : ([], E) = r) (hb : Below w.heap.size w w') : ParsedS w r (.returned (.tuple #[.slice none 0 0, .int .i64 E])) w' := by
  subst h
  exact ⟨_, rfl, RowG.nil _ _ _ _, hb⟩

set_option maxHeartbeats 1600000 in
set_option maxRecDepth 100000 in
theorem sparse_any (p : Option Addr) (n c : Nat) (xs : List Int) (w : World) (h : Byt w p n c xs) (r : List Sl × Int) (hr : parseS xs = r) :
    Calls Tryd.prog 106 #[.slice p n c] w (ParsedS w r) := by
  have hn := h.le
  unfold parseS at hr
  rw [h.len] at hr
  by_cases h4 : n < 4
  · rw [if_pos h4] at hr
    have HR := hidden hr
    clear h hr
    go_enter Tryd.func106, Tryd.ntmps106
    go_wp2
    go_ret2
    exact parsed_none _ _ _ _ HR.out (Below.refl _ _)
  rw [if_neg h4] at hr
  obtain ⟨bb, oo, rfl, hcell⟩ := h.at_ (by omega)
  have c0 := hcell 0 (by omega)
  have x0 := rng_getD h.rng 0
  obtain ⟨N, hN⟩ := Int.eq_ofNat_of_zero_le x0.1
  rw [hN] at hr c0 x0
  rw [Nat.add_zero] at c0
  have hcap := h.cap
  by_cases h0 : (N : Int) = 0
  · rw [if_pos h0] at hr
    have HR := hidden hr
    have hN0 : N = 0 := by omega
    subst hN0
    clear h hr hcell hN h0
    go_enter Tryd.func106, Tryd.ntmps106
    go_wp2_with (first
      | (go_at_call 98; (refine (count_any _ _).mono ?_); rintro e w' ⟨rfl, rfl⟩; rw [show cntE 0 = 8 from rfl])
      | fail)
    go_ret2
    exact parsed_none _ _ _ _ HR.out (Below.refl _ _)
  rw [if_neg h0] at hr
  by_cases h16 : (N : Int) > 16
  · rw [if_pos h16] at hr
    have hc10 : cntE N = 10 := by unfold cntE; rw [if_neg (by omega), if_pos (by omega)]
    have HR := hidden hr
    clear h hr hcell hN h0
    go_enter Tryd.func106, Tryd.ntmps106
    go_wp2_with (first
      | (go_at_call 98; (with_reducible refine (count_any _ _).mono ?_); rintro e w' ⟨rfl, rfl⟩; rw [hc10])
      | fail)
    go_ret2
    exact parsed_none _ _ _ _ HR.out (Below.refl _ _)
  rw [if_neg h16] at hr
  have hc0 : cntE N = 0 := by unfold cntE; rw [if_neg (by omega), if_neg (by omega)]
  have hpart := h.part 4 n (by omega) (Nat.le_refl _)
  rw [List.take_of_length_le (by rw [h.len]; omega)] at hpart
  obtain ⟨o, ho⟩ : ∃ o, manyS N (xs.drop 4) = o := ⟨_, rfl⟩
  rw [Int.toNat_natCast, ho] at hr
  have HR := hidden hr
  have HRD := hidden (fun q m d (h : Byt w q m d (xs.drop 4)) => sread_any q m d _ w h N (by omega) o ho)
  have HP := hidden hpart
  clear h hr hcell hN ho hpart
  have hcc : (c = 4 ∧ n = 4) ∨ c ≠ 4 := by omega
  rcases hcc with ⟨rfl, rfl⟩ | hcc
  all_goals
    first | (rw [if_pos rfl, Nat.sub_self] at HP) | (rw [if_neg hcc, Option.map_some, WideShapes.add_plain] at HP)
    cases o with
    | none =>
      go_enter Tryd.func106, Tryd.ntmps106
      go_wp2_with (first
        | (go_at_call 98; (with_reducible refine (count_any _ _).mono ?_); rintro e w' ⟨rfl, rfl⟩; rw [hc0])
        | (go_at_call 119; (with_reducible refine (HRD.out _ _ _ HP.out).mono ?_); rintro e w1 ⟨hb, v, rfl⟩; have HB1 := hidden hb; clear hb)
        | fail)
      go_ret2
      exact parsed_none _ _ _ _ HR.out HB1.out
    | some l =>
      obtain ⟨z, hz⟩ : ∃ z, errL l = z := ⟨_, rfl⟩
      have hr := HR.out
      simp only at hr
      rw [hz] at hr
      by_cases hz0 : z = 0
      · subst hz0
        rw [if_neg (by simp)] at hr
        have HR2 := hidden hr
        clear hr HR
        go_enter Tryd.func106, Tryd.ntmps106
        go_wp2_with (first
          | (go_at_call 98; (with_reducible refine (count_any _ _).mono ?_); rintro e w' ⟨rfl, rfl⟩; rw [hc0])
          | (go_at_call 119; (with_reducible refine (HRD.out _ _ _ HP.out).mono ?_); rintro e w1 ⟨hb, v, rfl, hrow⟩; have HB1 := hidden hb; have HRW := hidden hrow; obtain ⟨q, d, rfl, hrd⟩ := hrow.rd (D := DSlr) rfl (fun _ h => h); have HC := hidden (each_any q _ d l w1 hrd 0 hz); clear hb hrow hrd)
          | (go_at_call 99; (with_reducible refine (HC.out).mono ?_); rintro e w2 ⟨rfl, hb2⟩; have HRW2 := hidden (HRW.out.below hb2); have HB2 := hidden (HB1.out.trans (hb2.mono HB1.out.size)); clear hb2)
          | fail)
        go_ret2
        rw [← HR2.out]
        exact ⟨_, rfl, HRW2.out, HB2.out⟩
      · rw [if_pos hz0] at hr
        have hz' : (z != 0) = true := by simpa using hz0
        have HR2 := hidden hr
        clear hr HR hz0
        go_enter Tryd.func106, Tryd.ntmps106
        go_wp2_with (first
          | (go_at_call 98; (with_reducible refine (count_any _ _).mono ?_); rintro e w' ⟨rfl, rfl⟩; rw [hc0])
          | (go_at_call 119; (with_reducible refine (HRD.out _ _ _ HP.out).mono ?_); rintro e w1 ⟨hb, v, rfl, hrow⟩; have HB1 := hidden hb; obtain ⟨q, d, rfl, hrd⟩ := hrow.rd (D := DSlr) rfl (fun _ h => h); have HC := hidden (each_any q _ d l w1 hrd z hz); clear hb hrow hrd)
          | (go_at_call 99; (with_reducible refine (HC.out).mono ?_); rintro e w2 ⟨rfl, hb2⟩; have HB2 := hidden (HB1.out.trans (hb2.mono HB1.out.size)); clear hb2)
          | fail)
        go_ret2
        exact parsed_none _ _ _ _ HR2.out HB2.out
end Go.Proofs.YtpocehpejbnemaaDoor
