/-
  What the document's own Parse returns: the header in any bytes, or the first error.
-/
import Derived.Test.YtjkeijkbekdjfaaParse
import Derived.Test.YtjkeijkbekdjfaaRNumber
import Derived.BigRegion
namespace Go.Proofs.Ytjkeijkbekdjfaa
open Go.RowKit
set_option linter.unusedVariables false

theorem rnum_at (p : Option Addr) (n c : Nat) (xs : List Int) (w : World) (a d : Nat) (A D v : Int) (hA : A = (a : Int)) (hD : D = (d : Int)) (hv : numAt xs a d = v) (h : Byt w p n c xs) (h1 : 1 ≤ d) (h8 : d ≤ 8) (hin : a + d ≤ n) :
    Calls Try.prog 27 #[.slice p n c, .int .i64 A, .int .i64 D] w fun e w' => e = .returned (.tuple #[.int .u64 v, .bool true]) ∧ w = w' := by
  subst hv hA hD
  have hl := h.len
  have hle := h.le
  have hr : numR xs a d = (numAt xs a d, true) := by
    rw [numR, if_pos (by omega)]
    rfl
  have := rnumber_any p n c xs w h a d (by omega) (by omega)
  rw [hr] at this
  exact this

theorem numAt_one (xs : List Int) (a : Nat) (h : a < xs.length) : numAt xs a 1 = xs.getD a 0 := by
  have : (xs.drop a).take 1 = [xs.getD a 0] := by
    rw [List.drop_eq_getElem_cons h, List.take_succ_cons, List.take_zero, List.getD_eq_getElem?_getD, List.getElem?_eq_getElem h]
    rfl
  rw [numAt, this]
  simp [val]

theorem rparse_short (p : Option Addr) (n c : Nat) (xs : List Int) (w : World) (h : Byt w p n c xs) (hn : n < 28) :
    Calls Try.prog 14 #[.slice p n c] w (Parsed w (Hdr.zero, 1)) := by
  have hle := h.le
  clear h
  go_enter Try.func14, Try.ntmps14
  go_wp2
  refine ret_hdr2 (g := w.heap.size) rfl rfl rfl rfl (HdrIn.new w 0 0 0 0 0 0 29) ?_
  exact ⟨rfl, (Below.refl _ _).alloc (Nat.le_refl _) _⟩

set_option maxHeartbeats 1600000 in
theorem rparse_core (p : Option Addr) (n c : Nat) (xs : List Int) (w : World) (h : Byt w p n c xs) (hn : 28 ≤ n) (v1 v2 v3 v4 v5 v6 v7 v8 : Int)
    (e1 : numAt xs 0 8 = v1) (e2 : numAt xs 8 8 = v2) (e3 : numAt xs 16 1 = v3) (e4 : numAt xs 17 1 = v4) (e5 : numAt xs 18 1 = v5) (e6 : numAt xs 19 1 = v6) (e7 : numAt xs 20 4 = v7) (e8 : numAt xs 24 4 = v8)
    (b1 : 0 ≤ v1 ∧ v1 ≤ 18446744073709551615) (b2 : 0 ≤ v2 ∧ v2 ≤ 18446744073709551615) (b3 : 0 ≤ v3 ∧ v3 ≤ 255) (b4 : 0 ≤ v4 ∧ v4 ≤ 255) (b5 : 0 ≤ v5 ∧ v5 ≤ 255) (b6 : 0 ≤ v6 ∧ v6 ≤ 255) (b7 : 0 ≤ v7 ∧ v7 ≤ 4294967295) (b8 : 0 ≤ v8 ∧ v8 ≤ 4294967295) :
    Calls Try.prog 14 #[.slice p n c] w (Parsed w (parseV v1 v2 v3 v4 v5 v6 v7 v8 n)) := by
  have hle := h.le
  have hcap := h.cap
  have hlen := h.len
  obtain ⟨b, o, rfl, hc⟩ := h.at_ (by omega)
  have hbl := h.lt (by omega)
  have k16 := hc 16 (by omega)
  have k17 := hc 17 (by omega)
  have k18 := hc 18 (by omega)
  have k19 := hc 19 (by omega)
  rw [← numAt_one xs 16 (by omega), e3] at k16
  rw [← numAt_one xs 17 (by omega), e4] at k17
  rw [← numAt_one xs 18 (by omega), e5] at k18
  rw [← numAt_one xs 19 (by omega), e6] at k19
  have HY := hidden h
  have E1 := hidden e1
  have E2 := hidden e2
  have E7 := hidden e7
  have E8 := hidden e8
  have hne : b ≠ w.heap.size := by omega
  clear h hc e1 e2 e3 e4 e5 e6 e7 e8
  have HW1 := hidden ((Below.refl w.heap.size w).alloc (Nat.le_refl _) (.cells #[.int .u64 0, .int .u64 0, .int .i64 0, .int .i64 0, .int .i64 0, .int .u32 0] 29))
  by_cases q4 : v4 / 16 = 2
  case neg =>
    have hp : parseV v1 v2 v3 v4 v5 v6 v7 v8 n = (Hdr.zero, 3) := by rw [parseV, if_pos q4]
    have HP := hidden hp
    have q4' : (v4 / 16 != 2) = true := by simpa using q4
    clear hp HW1 E1 E2 E7 E8 k16 k18 k19
    go_enter Try.func14, Try.ntmps14
    go_wp2
    refine ret_hdr2 (g := w.heap.size) rfl rfl rfl rfl (HdrIn.new w 0 0 0 0 0 0 29) ?_
    rw [HP.out]
    exact ⟨rfl, (Below.refl _ _).alloc (Nat.le_refl _) _⟩
  have q4' : (v4 / 16 != 2) = false := by simp [q4]
  have HQ4 := hidden q4
  clear q4
  have HB := hidden (fun w' (hw : ∃ o1 o2, w' = (w.alloc o1).alloc o2) => (show Below w.heap.size w w' by
    obtain ⟨o1, o2, rfl⟩ := hw
    exact ((Below.refl w.heap.size w).alloc (Nat.le_refl _) o1).alloc (by simp) o2))
  go_enter Try.func14, Try.ntmps14
  go_wp2_with (go_at_call 27; first
    | ((with_reducible refine (rnum_at (some ⟨b, o, none⟩) n c xs _ 0 8 (0 : Int) (8 : Int) v1 rfl rfl E1.out (HY.out.below (HB.out _ ⟨_, _, rfl⟩)) (by omega) (by omega) (by omega)).mono ?_); rintro e w' ⟨rfl, rfl⟩)
    | ((with_reducible refine (rnum_at (some ⟨b, o, none⟩) n c xs _ 8 8 (8 : Int) (8 : Int) v2 rfl rfl E2.out (HY.out.below (HB.out _ ⟨_, _, rfl⟩)) (by omega) (by omega) (by omega)).mono ?_); rintro e w' ⟨rfl, rfl⟩)
    | ((with_reducible refine (rnum_at (some ⟨b, o, none⟩) n c xs _ 20 4 (20 : Int) (4 : Int) v7 rfl rfl E7.out (HY.out.below (HB.out _ ⟨_, _, rfl⟩)) (by omega) (by omega) (by omega)).mono ?_); rintro e w' ⟨rfl, rfl⟩)
    | ((with_reducible refine (rnum_at (some ⟨b, o, none⟩) n c xs _ 24 4 (24 : Int) (4 : Int) v8 rfl rfl E8.out (HY.out.below (HB.out _ ⟨_, _, rfl⟩)) (by omega) (by omega) (by omega)).mono ?_); rintro e w' ⟨rfl, rfl⟩))
  obtain ⟨w5, hw5⟩ : ∃ v, v = (w.alloc (.cells #[.int .u64 0, .int .u64 0, .int .i64 0, .int .i64 0, .int .i64 0, .int .u32 0] 29)).alloc (.cells #[.int .u64 v1, .int .u64 v2, .int .i64 0, .int .i64 0, .int .i64 0, .int .u32 0] 29) := ⟨_, rfl⟩
  rw [← hw5]
  have hb5 : Below w.heap.size w w5 := HB.out _ ⟨_, _, hw5⟩
  have hr5 : HdrIn w5 w.heap.size 0 0 0 0 0 0 0 := by rw [hw5]; exact (HdrIn.new w 0 0 0 0 0 0 29).alloc _
  have hh5 : HdrIn w5 (w.heap.size + 1) 0 v1 v2 0 0 0 0 := by
    rw [hw5]
    have := HdrIn.new (w.alloc (.cells #[.int .u64 0, .int .u64 0, .int .i64 0, .int .i64 0, .int .i64 0, .int .u32 0] 29)) v1 v2 0 0 0 0 29
    simpa using this
  have m16 := cell_below hb5 _ _ k16
  have m18 := cell_below hb5 _ _ k18
  have m19 := cell_below hb5 _ _ k19
  have HB5 := hidden hb5
  have HR5 := hidden hr5
  have HH5 := hidden hh5
  obtain ⟨r0, r1, r2, r3, r4, r5, rf⟩ := hr5
  obtain ⟨c0, c1, c2, c3, c4, c5, cf⟩ := hh5
  have hne1 : b ≠ w.heap.size + 1 := by omega
  clear hw5 hb5 k16 k17 k18 k19 HB HW1 HY E1 E2 E7 E8
  go_region
  obtain ⟨w6, hw6⟩ : ∃ v, v = ((((w5.setCell ⟨w.heap.size + 1, 2, none⟩ (.int .i64 v3)).setCell ⟨w.heap.size + 1, 3, none⟩ (.int .i64 v5)).setCell ⟨w.heap.size + 1, 4, none⟩ (.int .i64 (bits .and .i64 v6 56))).setCell ⟨w.heap.size + 1, 5, none⟩ (.int .u32 v7)).drew := ⟨_, rfl⟩
  rw [← hw6]
  have HB8 := hidden (show Below w.heap.size w w6 by
    rw [hw6]
    exact ((((HB5.out.setCell (p := ⟨_, _, none⟩) (by simp) _).setCell (p := ⟨_, _, none⟩) (by simp) _).setCell (p := ⟨_, _, none⟩) (by simp) _).setCell (p := ⟨_, _, none⟩) (by simp) _).drew)
  have HR8 := hidden (show HdrIn w6 w.heap.size 0 0 0 0 0 0 0 by
    rw [hw6]
    exact ((((HR5.out.set_ne _ _ _ (by omega)).set_ne _ _ _ (by omega)).set_ne _ _ _ (by omega)).set_ne _ _ _ (by omega)).drew)
  have HH8 := hidden (show HdrIn w6 (w.heap.size + 1) 0 v1 v2 v3 v5 (bits .and .i64 v6 56) v7 by
    rw [hw6]
    exact ((((HH5.out.set2 _).set3 _).set4 _).set5 _).drew)
  clear hw6 HB5 HR5 HH5 r0 r1 r2 r3 r4 r5 rf c0 c1 c2 c3 c4 c5 cf m16 m18 m19
  obtain ⟨k0, k1, k2, k3, k4, k5, kf⟩ := HH8.out
  obtain ⟨r0, r1, r2, r3, r4, r5, rf⟩ := HR8.out
  by_cases q8 : v8 = n
  case neg =>
    have hp : parseV v1 v2 v3 v4 v5 v6 v7 v8 n = (Hdr.zero, 2) := by rw [parseV, if_neg (by simp [HQ4.out]), if_pos q8]
    have HP := hidden hp
    have q8' : (v8 != (n : Int)) = true := by simpa using q8
    clear hp
    go_wp2
    refine ret_hdr2 (g := w.heap.size) rfl rfl rfl rfl (stored_hdr HR8.out) ?_
    rw [HP.out]
    exact ⟨rfl, stored_below HB8.out (Nat.le_refl _)⟩
  have q8' : (v8 != (n : Int)) = false := by simp [q8]
  have hp0 : parseV v1 v2 v3 v4 v5 v6 v7 v8 n = if checkR v1 v2 v3 v5 (bits .and .i64 v6 56) v7 ≠ 0 then (Hdr.zero, checkR v1 v2 v3 v5 (bits .and .i64 v6 56) v7) else (⟨v1, v2, v3, v5, bits .and .i64 v6 56, v7⟩, 0) := by
    rw [parseV, if_neg (by simp [HQ4.out]), if_neg (by simp [q8])]
  generalize bits .and .i64 v6 56 = y at *
  rcases hz : checkR v1 v2 v3 v5 y v7 with z
  have HC := hidden (fun w => rcheck_at v1 v2 v3 v5 y v7 _ w hz)
  rw [hz] at hp0
  have HP0 := hidden hp0
  clear hp0 hz q8 HQ4
  go_wp2_with (go_at_call 20; (with_reducible refine (HC.out _).mono ?_))
  rintro e w9 ⟨rfl, hb⟩
  have HB9 := hidden (HB8.out.trans (hb.mono HB8.out.size))
  have HR9 := hidden (HR8.out.below hb)
  have HH9 := hidden (HH8.out.below hb)
  clear hb HB8 HR8 HH8 HC k0 k1 k2 k3 k4 k5 kf r0 r1 r2 r3 r4 r5 rf
  obtain ⟨k0, k1, k2, k3, k4, k5, kf⟩ := HH9.out
  obtain ⟨r0, r1, r2, r3, r4, r5, rf⟩ := HR9.out
  by_cases hz0 : z = 0
  · subst hz0
    go_wp2
    refine ret_hdr2 (g := w.heap.size) rfl rfl rfl rfl (stored_hdr HR9.out) ?_
    rw [HP0.out, if_neg (by simp)]
    exact ⟨rfl, stored_below HB9.out (Nat.le_refl _)⟩
  · have hz1 : (z != 0) = true := by simpa using hz0
    have HZ := hidden hz0
    clear hz0
    go_wp2
    refine ret_hdr2 (g := w.heap.size) rfl rfl rfl rfl (stored_hdr HR9.out) ?_
    rw [HP0.out, if_pos HZ.out]
    exact ⟨rfl, stored_below HB9.out (Nat.le_refl _)⟩

theorem rparse_any (p : Option Addr) (n c : Nat) (xs : List Int) (w : World) (h : Byt w p n c xs) :
    Calls Try.prog 14 #[.slice p n c] w (Parsed w (parseR xs)) := by
  have hl := h.len
  by_cases hn : n < 28
  · rw [parseR, if_pos (by omega)]
    exact rparse_short p n c xs w h hn
  · rw [parseR, if_neg (by omega), hl]
    exact rparse_core p n c xs w h (by omega) _ _ _ _ _ _ _ _ rfl rfl rfl rfl rfl rfl rfl rfl
      (numAt_bd xs 0 8 h.rng (by omega) _ (by decide)) (numAt_bd xs 8 8 h.rng (by omega) _ (by decide)) (numAt_bd xs 16 1 h.rng (by omega) _ (by decide)) (numAt_bd xs 17 1 h.rng (by omega) _ (by decide))
      (numAt_bd xs 18 1 h.rng (by omega) _ (by decide)) (numAt_bd xs 19 1 h.rng (by omega) _ (by decide)) (numAt_bd xs 20 4 h.rng (by omega) _ (by decide)) (numAt_bd xs 24 4 h.rng (by omega) _ (by decide))
end Go.Proofs.Ytjkeijkbekdjfaa
